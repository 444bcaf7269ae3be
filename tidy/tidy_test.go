package tidy

import (
	"fmt"
	"math"
	"slices"
	"strings"
	"testing"

	"backreach/api"
	"backreach/term"
	"backreach/value"
)

// draw is a row of numbers that is the same each time.
type draw uint64

func (d *draw) next() uint64 {
	*d = *d*6364136223846793005 + 1442695040888963407
	x := uint64(*d)
	return (x ^ x>>33) * 0xff51afd7ed558ccd
}

func (d *draw) below(n int) int {
	return int(d.next() >> 11 % uint64(n))
}

func (d *draw) among(x ...int) int {
	return x[d.below(len(x))]
}

// some is a number of 64 bits, mostly a small one, so that numbers often are the same.
func (d *draw) some() uint64 {
	if d.below(6) == 0 {
		return d.next()
	}
	return []uint64{0, 0, 0, 0, 1 << 63, 256, math.MaxUint64 - 2}[d.below(7)] + uint64(d.below(4))
}

func (d *draw) bytes(n int) []byte {
	b := make([]byte, n)
	for i := range b {
		b[i] = byte(d.some())
	}
	return b
}

func (d *draw) env() api.Env {
	e := api.Env{Input: d.bytes(d.among(0, 1, 3, 16)), Mem: d.bytes(d.among(0, 1, 5, 64))}
	for i := range e.Regs {
		e.Regs[i] = d.some()
	}
	return e
}

func konst(w int, n uint64) api.Node {
	return api.Node{Op: api.OpConst, W: w, N: n}
}

func input(n uint64) api.Node {
	return api.Node{Op: api.OpInput, W: 8, N: n}
}

func reg(n uint64) api.Node {
	return api.Node{Op: api.OpReg, W: 64, N: n}
}

func node(op, w int, kids ...int) api.Node {
	n := api.Node{Op: op, W: w}
	copy(n.K[:], kids)
	return n
}

// kidsOf is the kids that a node has, by its operation, written a second time.
func kidsOf(n api.Node) []int {
	switch {
	case n.Op <= api.OpBlank:
		return nil
	case n.Op == api.OpNot, n.Op == api.OpWide, n.Op == api.OpLow:
		return n.K[:1]
	case n.Op == api.OpIf, n.Op == api.OpPut:
		return n.K[:]
	}
	return n.K[:2]
}

// operations is the numbers of operations that are named.
func operations(names string) []int {
	var ops []int
	for _, name := range strings.Fields(names) {
		ops = append(ops, 8+slices.Index(strings.Fields("add sub mul div rem and or xor shl shr sar eq less below"), name))
	}
	return ops
}

// rowNames is all that row may answer.
func rowNames() []string {
	return []string{"constants", "itself, 0", "itself, 1", "itself", "0 behind", "1 behind", "not of not", "low of wide", "choice by a constant", "choice of the same", "get of blank", "get at the same place", "get at another constant"}
}

// row is the row of the chapter's table by which a node goes, or none: the table written a second time. The nodes of the list are all unlike.
func row(l []api.Node, n api.Node) string {
	k := kidsOf(n)
	var kid [3]api.Node
	for i, at := range k {
		kid[i] = l[at]
	}
	is := func(names string) bool { return slices.Contains(operations(names), n.Op) }
	number := func(i int, want uint64) bool { return kid[i].Op == api.OpConst && kid[i].N == want }
	same := len(k) == 2 && k[0] == k[1]
	switch {
	case len(k) == 0 || n.Op == api.OpPut:
		return ""
	case n.Op == api.OpGet:
		switch {
		case kid[0].Op == api.OpBlank:
			return "get of blank"
		case kid[0].Op == api.OpPut && kid[0].K[1] == k[1]:
			return "get at the same place"
		case kid[0].Op == api.OpPut && kid[1].Op == api.OpConst && l[kid[0].K[1]].Op == api.OpConst:
			return "get at another constant"
		}
		return ""
	case !slices.ContainsFunc(k, func(at int) bool { return l[at].Op != api.OpConst }):
		return "constants"
	case same && is("sub xor less below"):
		return "itself, 0"
	case same && is("eq"):
		return "itself, 1"
	case same && is("and or"):
		return "itself"
	case is("add sub or xor shl shr sar") && number(1, 0):
		return "0 behind"
	case is("mul div") && number(1, 1):
		return "1 behind"
	case n.Op == api.OpNot && kid[0].Op == api.OpNot:
		return "not of not"
	case n.Op == api.OpLow && kid[0].Op == api.OpWide && l[kid[0].K[0]].W == 8:
		return "low of wide"
	case n.Op == api.OpIf && kid[0].Op == api.OpConst:
		return "choice by a constant"
	case n.Op == api.OpIf && k[1] == k[2]:
		return "choice of the same"
	}
	return ""
}

// ground is an arena in which nodes are made as they are.
type ground struct {
	t *testing.T
	*term.Arena
}

// newGround is one that has other nodes ahead, so that no place is 0 by chance.
func newGround(t *testing.T) ground {
	g := ground{t, term.New()}
	for _, n := range []api.Node{konst(64, 99), node(api.OpMem, 0), input(9), reg(5), node(api.OpAdd, 64, 0, 3), node(api.OpSub, 8, 2, 2)} {
		g.made(n)
	}
	return g
}

func (g ground) made(n api.Node) int {
	g.t.Helper()
	at, wrong := g.Make(n)
	if wrong != api.OK {
		g.t.Fatal(n, wrong)
	}
	return at
}

func (g ground) makes(op, w int, kids ...int) int {
	g.t.Helper()
	return g.made(node(op, w, kids...))
}

// nodes is all that stand there.
func (g ground) nodes() []api.Node {
	var l []api.Node
	for i := range g.Len() {
		n, _ := g.At(i)
		l = append(l, n)
	}
	return l
}

// filled makes constants till there is no room.
func (g ground) filled() {
	for i := uint64(1 << 40); g.Len() < 65536; i++ {
		g.made(konst(64, i))
	}
}

// again is an arena with the same nodes.
func (g ground) again() ground {
	h := ground{g.t, term.New()}
	for _, n := range g.nodes() {
		h.made(n)
	}
	return h
}

// unchanged holds what is there, and how often it was asked, against what was.
func (g ground) unchanged(was []api.Node, asked int) {
	g.t.Helper()
	if !slices.Equal(g.nodes(), was) || g.Asked() != asked {
		g.t.Fatal("changed", len(was), g.Len(), asked, g.Asked())
	}
}

// goal is a node, and the node by which it is answered.
type goal struct {
	row     string
	n, want api.Node
}

// to is a goal whose node is answered by one that is there.
func (g ground) to(row string, n api.Node, place int) goal {
	want, _ := g.At(place)
	return goal{row, n, want}
}

// subjects is nodes of a width, of all kinds, each as it was made.
func (g ground) subjects(w int) []int {
	in, in1, r0, r1, mem := g.made(input(0)), g.made(input(1)), g.made(reg(0)), g.made(reg(1)), g.makes(api.OpMem, 0)
	eq := g.makes(api.OpEq, 1, in, in1)
	switch w {
	case 1:
		return []int{eq, g.makes(api.OpNot, 1, eq), g.makes(api.OpBelow, 1, r0, r1), g.makes(api.OpLess, 1, in, in), g.made(konst(1, 0)), g.made(konst(1, 1))}
	case 8:
		return []int{in, in1, g.makes(api.OpLow, 8, r0), g.makes(api.OpGet, 8, mem, r1), g.makes(api.OpIf, 8, eq, in, in1), g.makes(api.OpSub, 8, in, in), g.made(konst(8, 0)), g.made(konst(8, 1)), g.made(konst(8, 200))}
	}
	return []int{r0, r1, g.makes(api.OpWide, 64, in), g.makes(api.OpWide, 64, eq), g.makes(api.OpSar, 64, r0, r1), g.makes(api.OpNot, 64, r0), g.made(konst(64, 0)), g.made(konst(64, 1)), g.made(konst(64, math.MaxUint64))}
}

// goalsOfOne is the rows of one node of a width, by which itself or a constant is answered.
func (g ground) goalsOfOne(w, x int) []goal {
	var l []goal
	for _, op := range operations("sub xor") {
		l = append(l, goal{"itself, 0", node(op, w, x, x), konst(w, 0)})
	}
	for _, op := range operations("less below") {
		l = append(l, goal{"itself, 0", node(op, 1, x, x), konst(1, 0)})
	}
	l = append(l, goal{"itself, 1", node(api.OpEq, 1, x, x), konst(1, 1)})
	for _, op := range operations("and or") {
		l = append(l, g.to("itself", node(op, w, x, x), x))
	}
	for _, op := range operations("add sub or xor shl shr sar") {
		l = append(l, g.to("0 behind", node(op, w, x, g.made(konst(w, 0))), x))
	}
	for _, op := range operations("mul div") {
		l = append(l, g.to("1 behind", node(op, w, x, g.made(konst(w, 1))), x))
	}
	l = append(l, g.to("not of not", node(api.OpNot, w, g.makes(api.OpNot, w, x)), x))
	if w == 8 {
		l = append(l, g.to("low of wide", node(api.OpLow, 8, g.makes(api.OpWide, 64, x)), x))
	}
	return l
}

// goalsOfTwo is the choices among two nodes of a width.
func (g ground) goalsOfTwo(w, x, y int) []goal {
	l := []goal{
		g.to("choice by a constant", node(api.OpIf, w, g.made(konst(1, 1)), x, y), x),
		g.to("choice by a constant", node(api.OpIf, w, g.made(konst(1, 0)), x, y), y),
	}
	for _, c := range g.subjects(1) {
		l = append(l, g.to("choice of the same", node(api.OpIf, w, c, x, x), x))
	}
	return l
}

// goalsOfArrays is what is got, at each place of width 64, from arrays with each byte.
func (g ground) goalsOfArrays(at, b int) []goal {
	blank, mem := g.makes(api.OpBlank, 0), g.makes(api.OpMem, 0)
	l := []goal{{"get of blank", node(api.OpGet, 8, blank, at), konst(8, 0)}}
	for _, array := range []int{blank, mem, g.makes(api.OpPut, 0, mem, g.made(konst(64, 77)), b)} {
		l = append(l, g.to("get at the same place", node(api.OpGet, 8, g.makes(api.OpPut, 0, array, at, b), at), b))
	}
	if k, _ := g.At(at); k.Op != api.OpConst {
		return l
	}
	far := func(array int) int { return g.makes(api.OpPut, 0, array, g.made(konst(64, 1<<60)), g.made(input(7))) }
	unknown := g.makes(api.OpPut, 0, mem, g.made(reg(7)), b)
	return append(l,
		goal{"get at another constant", node(api.OpGet, 8, far(blank), at), konst(8, 0)},
		goal{"get at another constant", node(api.OpGet, 8, far(mem), at), node(api.OpGet, 8, mem, at)},
		goal{"get at another constant", node(api.OpGet, 8, far(unknown), at), node(api.OpGet, 8, unknown, at)},
		g.to("get at another constant", node(api.OpGet, 8, far(g.makes(api.OpPut, 0, mem, at, b)), at), b),
	)
}

// goals is nodes of each row of the table, of each width that it may have.
func (g ground) goals() []goal {
	var l []goal
	for _, w := range []int{1, 8, 64} {
		for i, x := range g.subjects(w) {
			l = append(l, g.goalsOfOne(w, x)...)
			l = append(l, g.goalsOfTwo(w, x, g.subjects(w)[(i+1)%len(g.subjects(w))])...)
		}
	}
	for _, at := range g.subjects(64) {
		for _, b := range g.subjects(8) {
			l = append(l, g.goalsOfArrays(at, b)...)
		}
	}
	return l
}

// tidies makes a node, tidied, and looks that nothing that was there went, that at most one node came, and that the arena has what is answered.
func (g ground) tidies(n api.Node) int {
	g.t.Helper()
	was := g.nodes()
	at, wrong := Make(g.Arena, n)
	if wrong != api.OK || at < 0 || at >= g.Len() || g.Len() > len(was)+1 || !slices.Equal(g.nodes()[:len(was)], was) {
		g.t.Fatal(n, at, wrong, len(was), g.Len())
	}
	return at
}

// P8.1: the chapter's example, made in an arena and as a term.
func TestExample(t *testing.T) {
	g := newGround(t)
	in := g.made(input(0))
	if n, _ := g.At(g.tidies(node(api.OpSub, 8, in, in))); n != konst(8, 0) {
		t.Error(n)
	}
	l, wrong := Tidy([]api.Node{input(0), node(api.OpSub, 8, 0, 0)})
	if wrong != api.OK || !slices.Equal(l, []api.Node{konst(8, 0)}) {
		t.Error(l, wrong)
	}
}

// P8.1: each row of the table, of each width that it may have, made behind other nodes.
func TestEveryRow(t *testing.T) {
	g := newGround(t)
	asked := map[string]bool{}
	for _, x := range g.goals() {
		place := slices.Index(g.nodes(), x.want)
		at := g.tidies(x.n)
		if n, _ := g.At(at); n != x.want || place >= 0 && at != place {
			t.Error(x, at, place, n)
		}
		asked[fmt.Sprint(x.row, " ", x.n.Op, " ", x.n.W)] = true
	}
	// By width 1, 8, 64: two and two, eq has width 1 whatever its kids' are, 2, 7, 2, not, two choices; then low and get.
	if want := 2*3 + 2 + 1 + 2*3 + 7*3 + 2*3 + 3 + 2*3 + 1 + 3; len(asked) != want {
		t.Error(len(asked), want, asked)
	}
}

// P8.1: what is right is tidied again where it was, and the nodes that were answered go on to be so in the same arena.
func TestEveryRowAgain(t *testing.T) {
	g := newGround(t)
	l := g.goals()
	var at []int
	for _, x := range l {
		at = append(at, g.tidies(x.n))
	}
	was := g.nodes()
	for i, x := range l {
		if again := g.tidies(x.n); again != at[i] {
			t.Error(x, at[i], again)
		}
		// Made as it is, the node stands there too, and still isn't what is answered.
		g.made(x.n)
		if again := g.tidies(x.n); again != at[i] {
			t.Error(x, at[i], again)
		}
	}
	if !slices.Equal(g.nodes()[:len(was)], was) {
		t.Error("changed")
	}
}

// edges is numbers of a width near its ends, and near those of shifts and signs.
func edges(w int) []uint64 {
	var l []uint64
	for _, x := range []uint64{0, 1, 2, 3, 7, 8, 9, 63, 64, 65, 127, 128, 200, 255, 256, 1<<63 - 1, 1 << 63, math.MaxUint64 - 1, math.MaxUint64} {
		if w == 64 || x>>w == 0 {
			l = append(l, x)
		}
	}
	return l
}

// wantConstant holds what a node of constants goes to against layer 7.
func (g ground) wantConstant(n api.Node) {
	g.t.Helper()
	h := g.again()
	want, wrong := value.Of(h.Term(h.made(n)), api.Env{})
	if wrong != api.OK {
		g.t.Fatal(n, wrong)
	}
	if k, _ := g.At(g.tidies(n)); k != konst(n.W, want) {
		g.t.Error(n, k, want)
	}
}

// P8.1: each operation of constants alone, of each width, goes to the constant that layer 7 tells; quotients and rests by 0 are among them.
func TestConstantsOfEachOperation(t *testing.T) {
	for _, w := range []int{1, 8, 64} {
		for _, x := range edges(w) {
			for _, y := range edges(w) {
				g := newGround(t)
				a, b := g.made(konst(w, x)), g.made(konst(w, y))
				for op := api.OpAdd; op <= api.OpBelow; op++ {
					if op >= api.OpEq {
						g.wantConstant(node(op, 1, a, b))
					} else {
						g.wantConstant(node(op, w, a, b))
					}
				}
				g.wantConstant(node(api.OpNot, w, a))
				g.wantConstant(node(api.OpIf, w, g.made(konst(1, 1)), a, b))
				g.wantConstant(node(api.OpIf, w, g.made(konst(1, 0)), a, b))
				if w == 64 {
					g.wantConstant(node(api.OpLow, 8, a))
				} else {
					g.wantConstant(node(api.OpWide, 64, a))
				}
			}
		}
	}
}

// P8.1: some constants that are written out, so that they don't hang on another layer.
func TestWrittenOut(t *testing.T) {
	for _, x := range []struct {
		op, w       int
		x, y, wants uint64
	}{
		{api.OpAdd, 8, 200, 100, 44}, {api.OpSub, 8, 0, 1, 255}, {api.OpMul, 8, 16, 17, 16}, {api.OpShl, 64, 1, 64, 0}, {api.OpSar, 8, 200, 4, 252}, {api.OpSar, 1, 1, 1, 1},
		{api.OpDiv, 1, 1, 0, 1}, {api.OpDiv, 1, 0, 0, 1}, {api.OpDiv, 8, 7, 0, 255}, {api.OpDiv, 64, 0, 0, math.MaxUint64}, {api.OpDiv, 8, 0, 7, 0}, {api.OpDiv, 8, 1, 1, 1},
		{api.OpRem, 1, 1, 0, 1}, {api.OpRem, 8, 7, 0, 7}, {api.OpRem, 64, 9, 0, 9}, {api.OpRem, 8, 9, 1, 0},
		{api.OpSub, 8, 0, 7, 249}, {api.OpShl, 8, 0, 7, 0}, {api.OpShr, 8, 0, 3, 0}, {api.OpXor, 8, 0, 7, 7}, {api.OpMul, 8, 1, 7, 7}, {api.OpDiv, 8, 1, 7, 0},
	} {
		g := newGround(t)
		a, b := g.made(konst(x.w, x.x)), g.made(konst(x.w, x.y))
		if n, _ := g.At(g.tidies(node(x.op, x.w, a, b))); n != konst(x.w, x.wants) {
			t.Error(x, n)
		}
	}
	for _, x := range [][]api.Node{
		{konst(1, 1), node(api.OpWide, 64, 0), konst(64, 1)}, {konst(8, 200), node(api.OpWide, 64, 0), konst(64, 200)},
		{konst(64, 0x1ff), node(api.OpLow, 8, 0), konst(8, 255)}, {konst(8, 170), node(api.OpNot, 8, 0), konst(8, 85)}, {konst(1, 0), node(api.OpNot, 1, 0), konst(1, 1)},
	} {
		if l, wrong := Tidy(x[:2]); wrong != api.OK || !slices.Equal(l, x[2:]) {
			t.Error(x, l, wrong)
		}
	}
}

// numbersToAsk is numbers at which arrays are asked.
func numbersToAsk(e api.Env) []uint64 {
	return append([]uint64{0, 1, 2, 3, 4, 5, 63, 64, 77, 255, 256, 257, 1 << 60, 1<<63 + 1, math.MaxUint64}, e.Regs[:]...)
}

// sameValue holds the values of two terms in an environment, or the bytes of two arrays, against each other, by layer 7.
func sameValue(t *testing.T, l, m []api.Node, e api.Env) {
	t.Helper()
	v, wrong := value.Of(l, e)
	if x, alsoWrong := value.Of(m, e); x != v || alsoWrong != wrong {
		t.Fatal(l, m, e, v, wrong, x, alsoWrong)
	}
	for _, at := range numbersToAsk(e) {
		b, wrong := value.Byte(l, e, at)
		if c, alsoWrong := value.Byte(m, e, at); c != b || alsoWrong != wrong {
			t.Fatal(l, m, e, at, b, wrong, c, alsoWrong)
		}
	}
}

// sameInMany does so in many environments; in the last ones all bytes of the input are the same, each number once.
func sameInMany(t *testing.T, d *draw, l, m []api.Node) {
	t.Helper()
	for range 12 {
		sameValue(t, l, m, d.env())
	}
	for b := range 4 {
		x := uint64(b) * math.MaxUint64 / 3
		sameValue(t, l, m, api.Env{Input: slices.Repeat([]byte{byte(x)}, 16), Mem: []byte{1, 2}, Regs: [8]uint64{x, x, x, x, x, x, x, x}})
	}
}

// keeps tidies a node and holds the value of what is answered against that of the node itself.
func (g ground) keeps(d *draw, n api.Node) api.Node {
	g.t.Helper()
	h := g.again()
	plain := h.Term(h.made(n))
	at := g.tidies(n)
	sameInMany(g.t, d, plain, g.Term(at))
	k, _ := g.At(at)
	return k
}

// P8.1: each row's node has the value of what it goes to.
func TestRowsKeepValues(t *testing.T) {
	d := draw(81)
	g := newGround(t)
	for _, x := range g.goals() {
		g.keeps(&d, x.n)
	}
}

// P8.1: the constants 0 and 1, and all bits 1, ahead of a node and behind it, of each operation and width; and a node and itself, and two nodes, of each operation.
func TestConstantsAheadAndBehind(t *testing.T) {
	d := draw(82)
	for _, w := range []int{1, 8, 64} {
		g := newGround(t)
		for _, x := range g.subjects(w) {
			for _, y := range []int{g.made(konst(w, 0)), g.made(konst(w, 1)), g.made(konst(w, math.MaxUint64>>(64-w))), x, g.subjects(w)[0]} {
				for op := api.OpAdd; op <= api.OpBelow; op++ {
					width := w
					if op >= api.OpEq {
						width = 1
					}
					g.keeps(&d, node(op, width, x, y))
					g.keeps(&d, node(op, width, y, x))
				}
			}
		}
	}
}

// P8.1: quotients and rests by 0 and of 0 are what they are for every byte of an input.
func TestDivisionsOfEachByte(t *testing.T) {
	for _, op := range operations("div rem mul") {
		for k := range uint64(4) {
			for _, n := range []api.Node{node(op, 8, 0, 1), node(op, 8, 1, 0)} {
				l := []api.Node{input(0), konst(8, k), n}
				m, wrong := Tidy(l)
				if wrong != api.OK {
					t.Fatal(l, wrong)
				}
				for b := range 256 {
					sameValue(t, l, m, api.Env{Input: []byte{byte(b)}})
				}
			}
		}
	}
}

// P8.1: nodes that are like those of the table, but aren't, keep their values: the low byte of a bit made wide, OpWide of OpLow, a choice of two by what isn't a constant.
func TestNodesThatStay(t *testing.T) {
	d := draw(83)
	g := newGround(t)
	for _, bit := range g.subjects(1) {
		if n := g.keeps(&d, node(api.OpLow, 8, g.makes(api.OpWide, 64, bit))); n.W != 8 {
			t.Error(bit, n)
		}
		for _, x := range g.subjects(8)[:3] {
			for _, y := range g.subjects(8) {
				g.keeps(&d, node(api.OpIf, 8, bit, x, y))
			}
		}
	}
	for _, x := range g.subjects(64) {
		g.keeps(&d, node(api.OpWide, 64, g.makes(api.OpLow, 8, x)))
		g.keeps(&d, node(api.OpNot, 64, x))
		g.keeps(&d, node(api.OpNot, 64, g.makes(api.OpNot, 64, g.makes(api.OpNot, 64, x))))
	}
	for _, leaf := range []api.Node{konst(1, 0), konst(8, 7), konst(64, 1<<50), input(15), reg(7), node(api.OpMem, 0), node(api.OpBlank, 0)} {
		if n := g.keeps(&d, leaf); n != leaf {
			t.Error(leaf, n)
		}
	}
}

// put makes a byte that is put into an array at a place.
func (g ground) put(array, at, b int) int {
	return g.makes(api.OpPut, 0, array, at, b)
}

// got is what a byte that is got is answered by, its value being kept.
func (g ground) got(d *draw, array, at int) api.Node {
	g.t.Helper()
	return g.keeps(d, node(api.OpGet, 8, array, at))
}

// P8.1: OpGet goes down through OpPuts of other constants to where the constant was put last, to OpBlank, and to OpMem.
func TestGetsThroughConstants(t *testing.T) {
	d := draw(84)
	for _, under := range []int{api.OpBlank, api.OpMem} {
		g := newGround(t)
		array := g.makes(under, 0)
		bottom := array
		bytes := map[uint64]int{}
		// Ten is put twice at each number below 10, and thrice at 5.
		for i, at := range []uint64{5, 0, 1, 2, 3, 4, 5, 6, 7, 8, 9, 9, 8, 7, 6, 5, 4, 3, 2, 1, 0} {
			bytes[at] = g.subjects(8)[i%9]
			array = g.put(array, g.made(konst(64, at)), bytes[at])
		}
		for at := range uint64(10) {
			want, _ := g.At(bytes[at])
			if n := g.got(&d, array, g.made(konst(64, at))); n != want {
				t.Error(under, at, n, want)
			}
		}
		for _, at := range []uint64{10, 1 << 63, math.MaxUint64} {
			place := g.made(konst(64, at))
			want := node(api.OpGet, 8, bottom, place)
			if under == api.OpBlank {
				want = konst(8, 0)
			}
			if n := g.got(&d, array, place); n != want {
				t.Error(under, at, n, want)
			}
		}
	}
}

// P8.1: OpGet goes no further than an OpPut at what isn't a constant, if its own place is one, and no further than the first OpPut of another place, if it isn't.
func TestGetsThroughOtherPlaces(t *testing.T) {
	d := draw(85)
	for _, under := range []int{api.OpBlank, api.OpMem} {
		g := newGround(t)
		two, three, r0, r1 := g.made(konst(64, 2)), g.made(konst(64, 3)), g.made(reg(0)), g.made(reg(1))
		b, c := g.made(input(0)), g.made(input(1))
		low := g.put(g.makes(under, 0), two, b)
		unknown := g.put(low, r0, c)
		top := g.put(g.put(unknown, three, b), g.made(konst(64, 4)), c)
		byteOf := func(place int) api.Node { n, _ := g.At(place); return n }
		for i, x := range []struct {
			array, at int
			want      api.Node
		}{
			{low, two, byteOf(b)}, {unknown, r0, byteOf(c)}, {top, three, byteOf(b)},
			{top, two, node(api.OpGet, 8, unknown, two)}, {unknown, two, node(api.OpGet, 8, unknown, two)},
			{g.put(top, r1, c), r1, byteOf(c)}, {g.put(g.put(top, r1, b), r1, c), r1, byteOf(c)}, {g.put(g.put(top, two, b), two, c), two, byteOf(c)},
			// These have no row: whatever is answered, the value is kept.
			{low, r0, api.Node{}}, {unknown, r1, api.Node{}}, {top, r0, api.Node{}}, {top, r1, api.Node{}}, {g.put(top, r1, c), two, api.Node{}}, {g.put(g.put(low, r1, b), r0, c), r1, api.Node{}},
		} {
			if n := g.got(&d, x.array, x.at); n != x.want && x.want != (api.Node{}) {
				t.Error(under, i, n, x.want)
			}
		}
	}
}

// P8.1: the same array is got from at many places, and is as it was.
func TestGetsFromSharedArrays(t *testing.T) {
	d := draw(86)
	g := newGround(t)
	places := append(g.subjects(64), g.made(konst(64, 2)), g.made(konst(64, 3)))
	arrays := []int{g.makes(api.OpBlank, 0), g.makes(api.OpMem, 0)}
	for range 60 {
		arrays = append(arrays, g.put(arrays[d.below(len(arrays))], places[d.below(len(places))], g.subjects(8)[d.below(9)]))
	}
	for _, array := range arrays {
		for _, at := range places {
			g.got(&d, array, at)
		}
	}
}

// pick is the place of a node that is so, of the late ones more often than of the early ones; else 0.
func pick(d *draw, l []api.Node, so func(n api.Node) bool) int {
	var places []int
	for i, n := range l {
		if so(n) {
			places = append(places, i)
		}
	}
	if len(places) == 0 {
		return 0
	}
	return places[max(d.below(len(places)), d.below(len(places)))]
}

// drawn is a node behind others, that need not be right. Its kids are often such as the table names.
func drawn(d *draw, l []api.Node, ops ...int) api.Node {
	n := api.Node{Op: d.among(ops...), W: d.among(0, 1, 8, 64)}
	for k := range kidsOf(n) {
		n.K[k] = max(d.below(len(l)), d.below(len(l)))
	}
	of := func(op int) int { return pick(d, l, func(n api.Node) bool { return n.Op == op }) }
	constant := func(w int) int {
		return pick(d, l, func(n api.Node) bool { return n.Op == api.OpConst && n.W == w && (w == 64 || n.N < 2) })
	}
	if d.below(2) == 0 {
		return n
	}
	switch k := len(kidsOf(n)); {
	case n.Op == api.OpNot:
		n.K[0] = of(api.OpNot)
	case n.Op == api.OpLow:
		n.K[0] = of(api.OpWide)
	case n.Op == api.OpGet && d.below(3) == 0:
		n.K[0] = of(api.OpPut)
		n.K[1] = l[n.K[0]].K[1]
	case n.Op == api.OpGet:
		n.K[0], n.K[1] = of(api.OpPut), constant(64)
	case n.Op == api.OpPut:
		n.K[1] = constant(64)
	case n.Op == api.OpIf && d.below(2) == 0:
		n.K[0] = constant(1)
	case k > 1 && d.below(2) == 0:
		n.K[k-1] = n.K[k-2]
	case k == 2:
		n.K[1] = constant(l[n.K[0]].W)
	}
	return n
}

// grown is a list of nodes that are right: those of words and arrays, and the leaves that are handed in.
func grown(d *draw, size int, leaves ...int) []api.Node {
	l := []api.Node{konst(1, uint64(d.below(2))), konst(8, uint64(d.below(256))), konst(64, d.some()), node(api.OpBlank, 0), konst(64, 0), konst(8, 1)}
	for len(l) < size {
		n := drawn(d, l, api.OpNot+d.below(20), api.OpNot+d.below(20), api.OpPut, api.OpPut, api.OpGet, api.OpIf, api.OpConst, d.among(leaves...))
		switch n.Op {
		case api.OpConst:
			n.N = d.some() & (1<<n.W - 1)
		case api.OpInput, api.OpReg:
			n.N = uint64(d.below(3))
		}
		l = append(l, n)
		if wrong, _ := term.Check(l); wrong != api.OK {
			l = l[:len(l)-1]
		}
	}
	return l
}

// grownOfAll is one with all kinds of leaves.
func grownOfAll(d *draw, size int) []api.Node {
	return grown(d, size, api.OpInput, api.OpReg, api.OpMem, api.OpBlank)
}

// putIn is how a list stands in an arena: the root's term there.
func putIn(t *testing.T, l []api.Node) []api.Node {
	t.Helper()
	a := term.New()
	at, wrong := a.Put(l)
	if wrong != api.OK {
		t.Fatal(l, wrong)
	}
	return a.Term(at)
}

// P8.1: any node that is made, tidied, behind any others, which were made as they are, keeps its value.
func TestMakeKeepsValues(t *testing.T) {
	d := draw(87)
	rows := map[string]int{}
	leaves := []api.Node{konst(1, 1), konst(8, 0), konst(8, 1), konst(64, 0), konst(64, 1), input(0), reg(0), node(api.OpMem, 0), node(api.OpBlank, 0)}
	for i := range 270 {
		// What nodes without kids name as kids, place 0, is of each kind in turn.
		g := ground{t, term.New()}
		g.made(leaves[i%len(leaves)])
		for range 1 + d.below(2) {
			if _, wrong := g.Put(grownOfAll(&d, 20)); wrong != api.OK {
				t.Fatal(wrong)
			}
		}
		for range 20 {
			l := g.nodes()
			n := grownOn(&d, l)
			rows[row(l, n)]++
			g.keeps(&d, n)
		}
	}
	for _, name := range rowNames() {
		if rows[name] < 10 {
			t.Error(name, rows)
		}
	}
}

// grownOn is a node with kids that is right behind others.
func grownOn(d *draw, l []api.Node) api.Node {
	for {
		n := drawn(d, l, api.OpNot+d.below(20), api.OpNot+d.below(20), api.OpNot, api.OpMul, api.OpDiv, api.OpGet, api.OpGet, api.OpLow, api.OpIf)
		if wrong, _ := term.Check(append(slices.Clone(l), n)); wrong == api.OK {
			return n
		}
	}
}

// roomy is a copy of the list with spare room behind it, that isn't empty.
func roomy(l []api.Node) []api.Node {
	room := append(slices.Clone(l), node(77, 77, 7, 7, 7), node(78, 78, 8, 8, 8))
	return room[:len(l)]
}

// whole is the list with its spare room.
func whole(l []api.Node) []api.Node {
	return slices.Clone(l[:cap(l)])
}

// tidy is what Tidy answers of a term, which is left as it was, and is answered by a term that is no greater.
func tidy(t *testing.T, l []api.Node) []api.Node {
	t.Helper()
	l = roomy(l)
	was := whole(l)
	m, wrong := Tidy(l)
	if wrong != api.OK || !slices.Equal(whole(l), was) {
		t.Fatal(l, wrong)
	}
	if fault, at := term.Check(m); fault != api.OK {
		t.Fatal(l, m, fault, at)
	}
	// The answer has no node twice, and none on which the root doesn't hang.
	if most := len(putIn(t, l)); len(m) > most || len(putIn(t, m)) != len(m) {
		t.Fatal(l, m, most)
	}
	return m
}

// P8.1, P8.2: a tidied term has the value of the term in many environments, no more nodes, and none that goes by a row of the table; tidied twice it is as it was once.
func TestTidyOfAllKinds(t *testing.T) {
	d := draw(88)
	rows, arrays, smaller := map[string]int{}, 0, 0
	for range 1500 {
		l := deep(t, grownOfAll(&d, 10+d.below(70)))
		m := tidy(t, l)
		sameInMany(t, &d, l, m)
		if again := tidy(t, m); !slices.Equal(again, m) {
			t.Fatal(l, m, again)
		}
		for i, n := range m {
			if name := row(m[:i], n); name != "" {
				t.Fatal(l, m, i, name)
			}
		}
		plain := putIn(t, l)
		for i, n := range plain {
			rows[row(plain[:i], n)]++
		}
		if m[len(m)-1].W == 0 {
			arrays++
		}
		if len(m) < len(plain) {
			smaller++
		}
	}
	for _, name := range rowNames() {
		if rows[name] < 10 {
			t.Error(name, rows)
		}
	}
	if arrays < 50 || smaller < 500 {
		t.Error(arrays, smaller)
	}
}

// deep is the beginning of a list whose root hangs on most nodes.
func deep(t *testing.T, l []api.Node) []api.Node {
	t.Helper()
	best, most := 0, 0
	for i := range l {
		if n := len(putIn(t, l[:i+1])); n >= most {
			best, most = i+1, n
		}
	}
	return l[:best]
}

// P8.1: each node of a term is a root once, so that no fault hides behind another node.
func TestTidyOfEachRoot(t *testing.T) {
	d := draw(89)
	for range 60 {
		l := grownOfAll(&d, 30)
		for i := range l {
			sameInMany(t, &d, l[:i+1], tidy(t, l[:i+1]))
		}
	}
}

// P8.2: a term that is no array, and has no input, register or memory, is one constant: its value.
func TestTermsOfConstants(t *testing.T) {
	d := draw(90)
	ops := map[string]int{}
	for range 2500 {
		l := grown(&d, 7+d.below(50), api.OpBlank)
		last := l[len(l)-1]
		m := tidy(t, l)
		if last.W == 0 {
			sameInMany(t, &d, l, m)
			continue
		}
		want, wrong := value.Of(l, d.env())
		if wrong != api.OK || !slices.Equal(m, []api.Node{konst(last.W, want)}) {
			t.Fatal(l, m, want, wrong)
		}
		ops[fmt.Sprint(last.Op, " ", last.W)]++
	}
	// The constants, not, the choices, and the 11 operations of two from add on have three widths each; wide, low, eq, less, below and get have one.
	if len(ops) != 14*3+6 {
		t.Error(len(ops), ops)
	}
}

// P8.2: a term that is over leaves, but hangs on none, becomes a constant too.
func TestTermsThatHangOnNothing(t *testing.T) {
	for _, x := range []struct {
		l    []api.Node
		want api.Node
	}{
		{[]api.Node{reg(0), reg(1), node(api.OpAdd, 64, 0, 1), node(api.OpSub, 64, 2, 2), konst(64, 7), node(api.OpXor, 64, 4, 3)}, konst(64, 7)},
		{[]api.Node{input(0), node(api.OpLess, 1, 0, 0), konst(8, 1), konst(8, 2), node(api.OpIf, 8, 1, 2, 3)}, konst(8, 2)},
		{[]api.Node{node(api.OpMem, 0), reg(0), konst(8, 9), node(api.OpPut, 0, 0, 1, 2), node(api.OpGet, 8, 3, 1), node(api.OpMul, 8, 4, 4)}, konst(8, 81)},
		{[]api.Node{input(0), node(api.OpWide, 64, 0), node(api.OpLow, 8, 1), node(api.OpEq, 1, 0, 2)}, konst(1, 1)},
		{[]api.Node{reg(0), node(api.OpNot, 64, 0), node(api.OpNot, 64, 1), node(api.OpXor, 64, 2, 0), node(api.OpNot, 64, 3)}, konst(64, math.MaxUint64)},
		{[]api.Node{node(api.OpMem, 0), konst(64, 1), konst(64, 2), input(3), konst(8, 5), node(api.OpPut, 0, 0, 1, 4), node(api.OpPut, 0, 5, 2, 3), node(api.OpGet, 8, 6, 1)}, konst(8, 5)},
	} {
		if m := tidy(t, x.l); !slices.Equal(m, []api.Node{x.want}) {
			t.Error(x, m)
		}
	}
}

// P8.1, P8.2: terms of one leaf, and such as nothing of goes, are as they were.
func TestTermsThatStay(t *testing.T) {
	for _, l := range [][]api.Node{
		{konst(1, 1)}, {konst(8, 255)}, {konst(64, math.MaxUint64)}, {input(15)}, {reg(7)}, {node(api.OpMem, 0)}, {node(api.OpBlank, 0)},
		{input(0), node(api.OpWide, 64, 0), konst(64, 5), node(api.OpAdd, 64, 1, 2)},
		{node(api.OpBlank, 0), reg(0), input(0), node(api.OpPut, 0, 0, 1, 2), reg(1), node(api.OpGet, 8, 3, 4)},
	} {
		m := tidy(t, l)
		if len(m) != len(l) || m[len(m)-1].Op != l[len(l)-1].Op {
			t.Error(l, m)
		}
	}
}

// P8.2: kids that are shared again and again are tidied once each, and the term doesn't grow.
func TestSharedKids(t *testing.T) {
	d := draw(91)
	l := []api.Node{reg(0), reg(1)}
	for len(l) < 100 {
		k := len(l) - 1
		l = append(l, node(operations("add xor mul sub")[d.below(4)], 64, k, k-1))
	}
	sameInMany(t, &d, l, tidy(t, l))
	same := append(slices.Clone(l), node(api.OpEq, 1, 99, 99))
	if m := tidy(t, same); !slices.Equal(m, []api.Node{konst(1, 1)}) {
		t.Error(len(m))
	}
	// The same nodes written twice are a node and itself.
	twice := slices.Clone(l)
	for _, n := range l {
		for k := range kidsOf(n) {
			n.K[k] += 100
		}
		twice = append(twice, n)
	}
	if m := tidy(t, append(twice, node(api.OpSub, 64, 99, 199))); !slices.Equal(m, []api.Node{konst(64, 0)}) {
		t.Error(len(m))
	}
}

// P8.2: nodes on which the root doesn't hang aren't answered, and play no part.
func TestNodesBeside(t *testing.T) {
	beside := []api.Node{node(api.OpMem, 0), reg(3), konst(8, 0), node(api.OpGet, 8, 0, 1), node(api.OpSub, 8, 3, 3), node(api.OpPut, 0, 0, 1, 2)}
	l := append(slices.Clone(beside), input(0), node(api.OpXor, 8, 6, 4))
	if m := tidy(t, l); !slices.Equal(m, []api.Node{input(0)}) {
		t.Error(m)
	}
	l = append(l, node(api.OpNot, 8, 7))
	if m := tidy(t, l); !slices.Equal(m, []api.Node{input(0), node(api.OpNot, 8, 0)}) {
		t.Error(m)
	}
}

// P8.1: arrays keep their bytes, however often and wherever bytes are put.
func TestTidyOfArrays(t *testing.T) {
	d := draw(92)
	for range 200 {
		l := []api.Node{node(d.among(api.OpMem, api.OpBlank), 0), konst(64, 0), konst(64, 1), konst(64, math.MaxUint64), reg(0), reg(1), konst(8, 3), input(0), node(api.OpAdd, 64, 4, 1), node(api.OpSub, 64, 5, 5), node(api.OpGet, 8, 0, 4)}
		array := 0
		for range 1 + d.below(30) {
			l = append(l, node(api.OpGet, 8, array, d.among(1, 2, 3, 4, 5, 8, 9)), node(api.OpPut, 0, array, d.among(1, 2, 3, 4, 5, 8, 9), d.among(6, 7, 10, len(l))))
			array = len(l) - 1
		}
		l = append(l[:array+1], node(api.OpPut, 0, array, 1, 7))
		sameInMany(t, &d, l, tidy(t, l))
	}
}

// P8.1: a node that isn't right has the error that the arena's Make would answer, the first of several, and the arena is as it was.
func TestNodesThatAreNotRight(t *testing.T) {
	g := ground{t, term.New()}
	for _, n := range []api.Node{konst(8, 3), konst(64, 4), konst(1, 0), node(api.OpMem, 0)} {
		g.made(n)
	}
	was, asked := g.nodes(), g.Asked()
	for _, x := range []struct {
		n     api.Node
		wrong api.Errno
	}{
		{node(-1, 8), api.ErrOp}, {node(25, 0), api.ErrOp}, {node(math.MinInt, 8, 1, 1, 1), api.ErrOp}, {node(math.MaxInt, 8, -1), api.ErrOp}, {api.Node{Op: 25, W: -1, N: 9, K: [3]int{-1, 9, 9}}, api.ErrOp},
		{node(api.OpAdd, 8, 0, 4), api.ErrKid}, {node(api.OpAdd, 8, -1, 0), api.ErrKid}, {node(api.OpSub, 8, 99, 99), api.ErrKid}, {node(api.OpSub, 8, 0, 0, 1), api.ErrKid}, {node(api.OpNot, 8, 0, 1), api.ErrKid}, {node(api.OpNot, 8, 0, 0, -1), api.ErrKid}, {node(api.OpConst, 8, 1), api.ErrKid}, {node(api.OpBlank, 0, 0, 0, math.MinInt), api.ErrKid}, {node(api.OpIf, 8, 2, 0, math.MaxInt), api.ErrKid}, {node(api.OpGet, 8, 3, 1, 1), api.ErrKid}, {node(api.OpPut, 0, 4, 1, 0), api.ErrKid},
		{api.Node{Op: api.OpNot, W: 3, N: 9, K: [3]int{4}}, api.ErrKid}, {api.Node{Op: api.OpConst, W: 3, N: 999, K: [3]int{1}}, api.ErrKid},
		{node(api.OpAdd, 64, 0, 0), api.ErrWidth}, {node(api.OpAdd, 8, 0, 1), api.ErrWidth}, {node(api.OpSub, 0, 3, 3), api.ErrWidth}, {node(api.OpEq, 8, 0, 0), api.ErrWidth}, {node(api.OpEq, 1, 3, 3), api.ErrWidth}, {node(api.OpIf, 0, 2, 3, 3), api.ErrWidth}, {node(api.OpIf, 8, 0, 0, 0), api.ErrWidth}, {node(api.OpIf, 64, 2, 0, 0), api.ErrWidth}, {node(api.OpGet, 8, 3, 0), api.ErrWidth}, {node(api.OpGet, 8, 0, 1), api.ErrWidth}, {node(api.OpGet, 64, 3, 1), api.ErrWidth}, {node(api.OpPut, 0, 3, 1, 1), api.ErrWidth}, {node(api.OpLow, 8, 0), api.ErrWidth}, {node(api.OpWide, 64, 1), api.ErrWidth}, {node(api.OpNot, 0, 3), api.ErrWidth}, {node(api.OpNot, -8, 0), api.ErrWidth}, {konst(7, 0), api.ErrWidth}, {node(api.OpMem, 8), api.ErrWidth}, {api.Node{Op: api.OpReg, W: 8, N: 99}, api.ErrWidth}, {api.Node{Op: api.OpOr, W: 64, N: 1}, api.ErrWidth},
		{konst(1, 2), api.ErrRange}, {konst(8, 256), api.ErrRange}, {input(16), api.ErrRange}, {reg(8), api.ErrRange}, {api.Node{Op: api.OpMem, N: 1}, api.ErrRange}, {api.Node{Op: api.OpSub, W: 8, N: 1}, api.ErrRange}, {api.Node{Op: api.OpGet, W: 8, N: math.MaxUint64, K: [3]int{3, 1}}, api.ErrRange},
	} {
		at, wrong := Make(g.Arena, x.n)
		if at != 0 || wrong != x.wrong {
			t.Error(x, at, wrong)
		}
		g.unchanged(was, asked)
	}
}

// P8.1: any node is right just if the arena's Make says so, and has its error.
func TestRightAsTheArenaSays(t *testing.T) {
	d := draw(93)
	told := map[api.Errno]int{}
	for range 3000 {
		g := ground{t, term.New()}
		if d.below(20) > 0 {
			if _, wrong := g.Put(grownOfAll(&d, 14)); wrong != api.OK {
				t.Fatal(wrong)
			}
		}
		n := api.Node{Op: d.among(-1, 25, d.below(25), d.below(25), d.below(25), d.below(25), d.below(25), d.below(25)), W: d.among(-1, 0, 0, 1, 1, 8, 8, 64, 64), N: uint64(d.among(0, 0, 0, 0, 0, 1, 8, 256))}
		for k := range 3 {
			if k < len(kidsOf(n)) || d.below(9) == 0 {
				n.K[k] = d.below(15) - d.below(20)/19
			}
		}
		_, want := g.again().Make(n)
		told[want]++
		was, asked := g.nodes(), g.Asked()
		at, wrong := Make(g.Arena, n)
		if wrong != want {
			t.Fatal(was, n, at, wrong, want)
		}
		if wrong != api.OK {
			g.unchanged(was, asked)
		}
	}
	for _, wrong := range []api.Errno{api.OK, api.ErrOp, api.ErrKid, api.ErrWidth, api.ErrRange} {
		if told[wrong] < 50 {
			t.Error(wrong, told)
		}
	}
}

// P8.1: nothing is right in an arena without nodes but leaves.
func TestArenaWithoutNodes(t *testing.T) {
	for op := range 25 {
		a := term.New()
		n := api.Node{Op: op, W: 8}
		_, want := term.New().Make(n)
		if at, wrong := Make(a, n); at != 0 || wrong != want || wrong != api.OK && a.Len() != 0 {
			t.Error(op, at, wrong, want)
		}
	}
}

// P8.1: in an arena without room what is answered by a node that is there is answered, what isn't is ErrFull, what isn't right has its own error.
func TestWithoutRoom(t *testing.T) {
	g := newGround(t)
	r0, r1, in := g.made(reg(0)), g.made(reg(1)), g.made(input(0))
	blank, mem, two, three := g.makes(api.OpBlank, 0), g.makes(api.OpMem, 0), g.made(konst(64, 2)), g.made(konst(64, 3))
	bit, put := g.makes(api.OpEq, 1, r0, r1), g.makes(api.OpPut, 0, mem, two, in)
	zero, got, not := g.made(konst(64, 0)), g.makes(api.OpGet, 8, mem, three), g.makes(api.OpNot, 64, r0)
	nots := g.makes(api.OpNot, 64, not)
	g.filled()
	for _, x := range []struct {
		n     api.Node
		at    int
		wrong api.Errno
	}{
		{reg(0), r0, api.OK}, {node(api.OpEq, 1, r0, r1), bit, api.OK}, {node(api.OpAdd, 64, r1, zero), r1, api.OK}, {node(api.OpSub, 64, r1, r1), zero, api.OK}, {node(api.OpAdd, 64, zero, two), two, api.OK}, {node(api.OpNot, 64, nots), not, api.OK},
		{node(api.OpGet, 8, put, two), in, api.OK}, {node(api.OpGet, 8, put, three), got, api.OK}, {node(api.OpIf, 64, bit, r1, r1), r1, api.OK},
		{reg(6), 0, api.ErrFull}, {node(api.OpAdd, 64, r0, r1), 0, api.ErrFull}, {node(api.OpSub, 8, in, in), 0, api.ErrFull}, {node(api.OpEq, 1, in, in), 0, api.ErrFull}, {node(api.OpGet, 8, blank, r0), 0, api.ErrFull}, {node(api.OpGet, 8, put, zero), 0, api.ErrFull}, {node(api.OpSub, 64, two, three), 0, api.ErrFull}, {node(api.OpPut, 0, put, r0, in), 0, api.ErrFull}, {konst(8, 9), 0, api.ErrFull},
		{node(99, 8), 0, api.ErrOp}, {node(api.OpNot, 8, 65536), 0, api.ErrKid}, {node(api.OpSub, 64, in, in), 0, api.ErrWidth}, {konst(8, 256), 0, api.ErrRange},
	} {
		if at, wrong := Make(g.Arena, x.n); at != x.at || wrong != x.wrong || g.Len() != 65536 {
			t.Error(x, at, wrong, g.Len())
		}
	}
}

// P8.1: an arena with room for one node more has it for what a node goes to, and then no more.
func TestRoomForOne(t *testing.T) {
	g := newGround(t)
	r0, in, mem, two, three := g.made(reg(0)), g.made(input(0)), g.makes(api.OpMem, 0), g.made(konst(64, 2)), g.made(konst(64, 3))
	put := g.put(g.put(mem, two, in), g.made(konst(64, 4)), in)
	g.filled()
	// All but the last one, a constant that nothing hangs on.
	roomy := ground{t, term.New()}
	for _, n := range g.nodes()[:65535] {
		roomy.made(n)
	}
	if at, wrong := Make(roomy.Arena, node(api.OpGet, 8, put, three)); at != 65535 || wrong != api.OK {
		t.Error(at, wrong)
	}
	if n, _ := roomy.At(65535); n != node(api.OpGet, 8, mem, three) {
		t.Error(n)
	}
	if at, wrong := Make(roomy.Arena, node(api.OpGet, 8, put, r0)); at != 0 || wrong != api.ErrFull {
		t.Error(at, wrong)
	}
	was := roomy.nodes()
	if at, wrong := Make(roomy.Arena, node(api.OpGet, 8, put, two)); at != in || wrong != api.OK || !slices.Equal(roomy.nodes(), was) {
		t.Error(at, wrong)
	}
}

// P8.1: lists that are no terms have Check's error, and nothing beside it.
func TestNoTerms(t *testing.T) {
	d := draw(94)
	told := map[api.Errno]int{}
	lists := [][]api.Node{nil, {}, {node(25, 0)}, {node(-1, 0)}, {node(api.OpNot, 8)}, {konst(7, 1)}, {konst(8, 256)}, {reg(8), node(99, 0)}, {node(99, 0), reg(8)}, {konst(8, 1), node(api.OpSub, 8, 1, 1)}, {konst(8, 1), node(api.OpNot, 8, math.MaxInt)}, {konst(8, 1), node(api.OpNot, 8, -1)}}
	for range 3000 {
		l := grownOfAll(&d, 7+d.below(10))
		n := &l[d.below(len(l))]
		switch d.below(4) {
		case 0:
			n.Op = d.among(-1, 25, math.MinInt, d.below(25))
		case 1:
			n.W = d.among(-1, 0, 1, 8, 64)
		case 2:
			n.N = d.next()
		case 3:
			n.K[d.below(3)] = d.among(-1, d.below(20), math.MaxInt, math.MinInt)
		}
		lists = append(lists, l)
	}
	for _, l := range lists {
		want, _ := term.Check(l)
		told[want]++
		if m, wrong := Tidy(roomy(l)); wrong != want || want != api.OK && len(m) != 0 {
			t.Fatal(l, m, wrong, want)
		}
	}
	for _, wrong := range []api.Errno{api.ErrOp, api.ErrKid, api.ErrWidth, api.ErrRange} {
		if told[wrong] < 50 {
			t.Error(wrong, told)
		}
	}
	if told[api.ErrNone] != 2 {
		t.Error(told)
	}
}

// P8.1, P8.2: a term of 65536 nodes is tidied, one node more is none.
func TestMostNodes(t *testing.T) {
	l := []api.Node{reg(0), konst(64, 3)}
	for len(l) < 65536 {
		l = append(l, node(api.OpMul+len(l)%2, 64, len(l)-1, len(l)%2))
	}
	m, wrong := Tidy(l)
	if wrong != api.OK || len(m) != 65536 {
		t.Error(len(m), wrong)
	}
	sameValue(t, l, m, api.Env{Regs: [8]uint64{7}})
	if m, wrong := Tidy(append(slices.Clone(l), node(api.OpSub, 64, 0, 0))); len(m) != 0 || wrong != api.ErrFull {
		t.Error(len(m), wrong)
	}
	// Nodes that are all the same, or such as go, leave few.
	for _, more := range []api.Node{reg(0), node(api.OpSub, 64, 0, 0), node(api.OpXor, 64, 0, 1), node(api.OpBlank, 0)} {
		rows := append([]api.Node{reg(0), konst(64, 0)}, slices.Repeat([]api.Node{more}, 65534)...)
		if m, wrong := Tidy(rows); wrong != api.OK || len(m) != 1 {
			t.Error(more, len(m), wrong)
		}
	}
}

// P8.1, rule 5: long rows of puts are gone down, and end.
func TestLongRows(t *testing.T) {
	for _, under := range []int{api.OpBlank, api.OpMem} {
		l := []api.Node{node(under, 0), konst(8, 7), konst(64, 5)}
		array := 0
		for n := range uint64(4000) {
			l = append(l, konst(64, 100+n), node(api.OpPut, 0, array, len(l), 1))
			array = len(l) - 1
		}
		l = append(l, node(api.OpGet, 8, array, 2))
		want := []api.Node{konst(8, 0)}
		if under == api.OpMem {
			want = []api.Node{node(api.OpMem, 0), konst(64, 5), node(api.OpGet, 8, 0, 1)}
		}
		if m := tidy(t, l); !slices.Equal(m, want) {
			t.Error(under, len(m))
		}
		l[len(l)-1].K[1] = 3
		if m := tidy(t, l); !slices.Equal(m, []api.Node{konst(8, 7)}) {
			t.Error(under, len(m))
		}
	}
}

// Rule 3: an answer is new memory, and what was handed in may be changed when it is there.
func TestAnswersAreNew(t *testing.T) {
	d := draw(95)
	l := deep(t, grownOfAll(&d, 60))
	first := tidy(t, l)
	was := slices.Clone(first)
	second := tidy(t, l)
	same, _ := Tidy(first)
	for _, m := range [][]api.Node{second, same, l} {
		for i := range m[:cap(m)] {
			m[:cap(m)][i] = node(77, 7, 7)
		}
	}
	if !slices.Equal(first, was) {
		t.Error(first, was)
	}
}

// Rule 4: what was asked ahead plays no part, and arenas don't mix.
func TestNothingIsKept(t *testing.T) {
	for range 3 {
		g, h := ground{t, term.New()}, newGround(t)
		for _, a := range []ground{g, h, g, h} {
			in := a.made(input(3))
			if k, _ := a.At(a.tidies(node(api.OpXor, 8, in, in))); k != konst(8, 0) {
				t.Error(k)
			}
			if at := a.tidies(node(api.OpOr, 8, in, in)); at != in {
				t.Error(at, in)
			}
		}
		if g.Len() != 2 {
			t.Error(g.Len())
		}
	}
}
