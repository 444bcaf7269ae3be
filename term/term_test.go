package term

import (
	"fmt"
	"math"
	"math/big"
	"slices"
	"strings"
	"testing"

	"backreach/api"
)

// draw is a row of numbers that is the same each time.
type draw uint64

func (d *draw) next() uint64 {
	*d = *d*6364136223846793005 + 1442695040888963407
	x := uint64(*d)
	return (x ^ x>>33) * 0xff51afd7ed558ccd
}

func (d *draw) below(n int) int {
	return int(d.next() >> 11 % uint64(n))
}

func (d *draw) among(x ...int) int {
	return x[d.below(len(x))]
}

func konst(w int, n uint64) api.Node {
	return api.Node{Op: api.OpConst, W: w, N: n}
}

func node(op, w int, kids ...int) api.Node {
	n := api.Node{Op: op, W: w}
	copy(n.K[:], kids)
	return n
}

func numbered(op, w int, number uint64) api.Node {
	return api.Node{Op: op, W: w, N: number}
}

// rule is the chapter's table, a row an operation: the kids' widths, its own, and how many numbers it may have. An x is any width but 0, the same wherever it stands in the row; of numbers, 0 stands for 2 to the width.
type rule struct {
	name, kids, width string
	numbers           uint64
}

func rules() []rule {
	two := func(name string) rule { return rule{name, "x x", "x", 1} }
	truth := func(name string) rule { return rule{name, "x x", "1", 1} }
	return []rule{
		{"const", "", "1|8|64", 0}, {"input", "", "8", 16}, {"reg", "", "64", 8}, {"mem", "", "0", 1}, {"blank", "", "0", 1},
		{"not", "x", "x", 1}, {"wide", "1|8", "64", 1}, {"low", "64", "8", 1},
		two("add"), two("sub"), two("mul"), two("div"), two("rem"), two("and"), two("or"), two("xor"), two("shl"), two("shr"), two("sar"),
		truth("eq"), truth("less"), truth("below"),
		{"if", "1 x x", "x", 1}, {"get", "0 64", "8", 1}, {"put", "0 64 8", "0", 1},
	}
}

// asRuled tells whether a width is one of those, x being what it was bound to, if it was.
func asRuled(those string, width int, x *int) bool {
	if those != "x" {
		return slices.Contains(strings.Split(those, "|"), fmt.Sprint(width))
	}
	if *x == 0 {
		*x = width
	}
	return width != 0 && width == *x
}

// wrong is what the chapter says of a node behind others, written a second time.
func wrong(n api.Node, ahead []api.Node) api.Errno {
	all := rules()
	if n.Op < 0 || n.Op >= len(all) {
		return api.ErrOp
	}
	r := all[n.Op]
	kids := strings.Fields(r.kids)
	for i, k := range n.K {
		if i < len(kids) && (k < 0 || k > len(ahead)-1) || i >= len(kids) && k != 0 {
			return api.ErrKid
		}
	}
	x := 0
	for i, those := range kids {
		if !asRuled(those, ahead[n.K[i]].W, &x) {
			return api.ErrWidth
		}
	}
	if !asRuled(r.width, n.W, &x) {
		return api.ErrWidth
	}
	end := new(big.Int).SetUint64(r.numbers)
	if r.numbers == 0 {
		end.Lsh(big.NewInt(1), uint(n.W))
	}
	if new(big.Int).SetUint64(n.N).Cmp(end) >= 0 {
		return api.ErrRange
	}
	return api.OK
}

// wrongIn is what the chapter says of a list of nodes.
func wrongIn(l []api.Node) (api.Errno, int) {
	for i, n := range l {
		if i == 65536 {
			return api.ErrFull, i
		}
		if e := wrong(n, l[:i]); e != api.OK {
			return e, i
		}
	}
	if len(l) == 0 {
		return api.ErrNone, 0
	}
	return api.OK, 0
}

// model is an arena without a map.
type model struct {
	nodes []api.Node
	asked int
}

func (m *model) make(n api.Node) (int, api.Errno) {
	m.asked++
	if i := slices.Index(m.nodes, n); i >= 0 {
		return i, api.OK
	}
	if e := wrong(n, m.nodes); e != api.OK {
		return 0, e
	}
	m.nodes = append(m.nodes, n)
	return len(m.nodes) - 1, api.OK
}

func (m *model) put(l []api.Node) (int, api.Errno) {
	if e, _ := wrongIn(l); e != api.OK {
		return 0, e
	}
	var at []int
	for _, n := range l {
		for i := range strings.Fields(rules()[n.Op].kids) {
			n.K[i] = at[n.K[i]]
		}
		k, _ := m.make(n)
		at = append(at, k)
	}
	return at[len(at)-1], api.OK
}

func (m *model) collect(place int, found map[int]bool) {
	if found[place] {
		return
	}
	found[place] = true
	n := m.nodes[place]
	for i := range strings.Fields(rules()[n.Op].kids) {
		m.collect(n.K[i], found)
	}
}

func (m *model) term(place int) []api.Node {
	if place < 0 || place >= len(m.nodes) {
		return nil
	}
	found := map[int]bool{}
	m.collect(place, found)
	var order []int
	for i := range found {
		order = append(order, i)
	}
	slices.Sort(order)
	var l []api.Node
	for _, i := range order {
		n := m.nodes[i]
		for k := range strings.Fields(rules()[n.Op].kids) {
			n.K[k] = slices.Index(order, n.K[k])
		}
		l = append(l, n)
	}
	return l
}

func (m *model) holds(t *testing.T, a *Arena) {
	t.Helper()
	if a.Len() != len(m.nodes) || a.Asked() != m.asked {
		t.Fatal("len", a.Len(), len(m.nodes), "asked", a.Asked(), m.asked)
	}
	for i, n := range m.nodes {
		if got, ok := a.At(i); got != n || !ok {
			t.Fatal(i, got, ok, n)
		}
	}
}

// written is the tree that hangs on a node of a list, whatever is shared in it.
func written(l []api.Node, place int) string {
	n := l[place]
	s := fmt.Sprint(n.Op, ":", n.W, ":", n.N)
	for k := range strings.Fields(rules()[n.Op].kids) {
		s += "(" + written(l, n.K[k]) + ")"
	}
	return s
}

// grown is a list of nodes that are right; few numbers are drawn, so that nodes come twice.
func grown(d *draw, size int) []api.Node {
	l := []api.Node{konst(1, uint64(d.below(2)))}
	for len(l) < size {
		n := api.Node{Op: d.below(25), W: d.among(0, 1, 8, 64), N: uint64(d.among(0, 0, 0, 1, 2))}
		// Late kids more often than early ones, so that terms are deep as well as broad.
		for k := range strings.Fields(rules()[n.Op].kids) {
			n.K[k] = max(d.below(len(l)), d.below(len(l)))
		}
		if wrong(n, l) == api.OK {
			l = append(l, n)
		}
	}
	return l
}

// roomy is a copy of the list with spare room behind it, that isn't empty.
func roomy(l []api.Node) []api.Node {
	room := append(slices.Clone(l), node(77, 77, 7, 7, 7), node(78, 78, 8, 8, 8))
	return room[:len(l)]
}

// whole is the list with its spare room.
func whole(l []api.Node) []api.Node {
	return slices.Clone(l[:cap(l)])
}

func spoil(l []api.Node) {
	for i := range l[:cap(l)] {
		l[:cap(l)][i] = node(-9, -9, -9, -9, -9)
	}
}

// blanks is so many nodes of the same kind.
func blanks(n int) []api.Node {
	return slices.Repeat([]api.Node{node(api.OpBlank, 0)}, n)
}

// constants is so many constants of width 64, from a number on.
func constants(from uint64, n int) []api.Node {
	l := make([]api.Node, n)
	for i := range l {
		l[i] = konst(64, from+uint64(i))
	}
	return l
}

// filled is an arena with so many constants, from 0 on.
func filled(t *testing.T, n int) *Arena {
	t.Helper()
	a := New()
	for i, k := range constants(0, n) {
		if at, e := a.Make(k); at != i || e != api.OK {
			t.Fatal(i, at, e)
		}
	}
	return a
}

// snapshot is all that can be asked of an arena's nodes.
func snapshot(a *Arena) []api.Node {
	var l []api.Node
	for i := range a.Len() {
		n, _ := a.At(i)
		l = append(l, n)
	}
	return l
}

// P6.1: how many kids each operation has, and none of what is no operation.
func TestKids(t *testing.T) {
	for op, r := range rules() {
		if got := Kids(op); got != len(strings.Fields(r.kids)) {
			t.Error(r.name, got)
		}
	}
	for _, op := range []int{-1, -2, 25, 26, 100, math.MinInt, math.MaxInt} {
		if got := Kids(op); got != 0 {
			t.Error(op, got)
		}
	}
}

// P6.1: each operation, with kids of all widths, of all widths, with all numbers at the edges.
func TestEveryOperation(t *testing.T) {
	ahead := []api.Node{konst(1, 1), konst(8, 255), konst(64, math.MaxUint64), node(api.OpMem, 0), node(api.OpBlank, 0), numbered(api.OpInput, 8, 15), numbered(api.OpReg, 64, 7), node(api.OpNot, 1, 0)}
	widths := []int{math.MinInt, -64, -8, -1, 0, 1, 2, 7, 8, 9, 16, 32, 63, 64, 65, 128, math.MaxInt}
	numbers := []uint64{0, 1, 2, 7, 8, 15, 16, 255, 256, 1 << 63, math.MaxUint64}
	good := map[string]bool{}
	l := append(slices.Clone(ahead), api.Node{})
	for op, r := range rules() {
		have := len(strings.Fields(r.kids))
		for kids := range int(math.Pow(8, float64(have))) {
			n := api.Node{Op: op, K: [3]int{kids % 8, kids / 8 % 8, kids / 64}}
			for _, n.W = range widths {
				for _, n.N = range numbers {
					l[8] = n
					want, at := wrong(n, ahead), 8
					if want == api.OK {
						at = 0
						good[fmt.Sprint(r.name, " ", n.W)] = true
					}
					if e, got := Check(l); e != want || got != at {
						t.Fatal(n, e, got, want)
					}
				}
			}
		}
	}
	// 14 operations have three widths each (constants, not, choices, and the 11 from add on), the other 11 have one.
	if len(good) != 14*3+11 {
		t.Error(len(good), good)
	}
}

// P6.1: the list of the chapter's example, and nothing.
func TestCheckOfRightLists(t *testing.T) {
	example := []api.Node{node(api.OpInput, 8), node(api.OpWide, 64, 0), konst(64, 5), node(api.OpAdd, 64, 1, 2)}
	for n := 1; n <= len(example); n++ {
		if e, at := Check(example[:n]); e != api.OK || at != 0 {
			t.Error(n, e, at)
		}
	}
	for _, l := range [][]api.Node{nil, {}} {
		if e, at := Check(l); e != api.ErrNone || at != 0 {
			t.Error(l, e, at)
		}
	}
}

// P6.1: the edges that the chapter names, one by one, at a place that isn't the first.
func TestEdges(t *testing.T) {
	ahead := []api.Node{konst(8, 3), konst(64, 4), konst(1, 0), node(api.OpMem, 0)}
	for _, x := range []struct {
		n api.Node
		e api.Errno
	}{
		{konst(1, 1), api.OK}, {konst(1, 2), api.ErrRange},
		{konst(8, 255), api.OK}, {konst(8, 256), api.ErrRange},
		{konst(64, math.MaxUint64), api.OK}, {konst(0, 0), api.ErrWidth}, {konst(2, 0), api.ErrWidth}, {konst(65, 0), api.ErrWidth},
		{numbered(api.OpInput, 8, 15), api.OK}, {numbered(api.OpInput, 8, 16), api.ErrRange}, {numbered(api.OpInput, 64, 0), api.ErrWidth},
		{numbered(api.OpReg, 64, 7), api.OK}, {numbered(api.OpReg, 64, 8), api.ErrRange}, {numbered(api.OpReg, 8, 0), api.ErrWidth},
		{numbered(api.OpMem, 0, 1), api.ErrRange}, {numbered(api.OpBlank, 0, 1), api.ErrRange}, {node(api.OpMem, 8), api.ErrWidth}, {node(api.OpBlank, 64), api.ErrWidth},
		{node(api.OpNot, 8, 3), api.ErrWidth}, {node(api.OpNot, 0, 3), api.ErrWidth}, {node(api.OpNot, 64, 1), api.OK},
		{node(api.OpNot, 8, 4), api.ErrKid}, {node(api.OpNot, 8, 5), api.ErrKid}, {node(api.OpNot, 8, -1), api.ErrKid}, {node(api.OpNot, 8, math.MinInt), api.ErrKid}, {node(api.OpNot, 8, math.MaxInt), api.ErrKid},
		{node(api.OpNot, 8, 0, 1), api.ErrKid}, {node(api.OpNot, 8, 0, 0, 1), api.ErrKid}, {node(api.OpNot, 8, 0, -1), api.ErrKid},
		{node(api.OpBlank, 0, 1), api.ErrKid}, {node(api.OpConst, 8, 0, 0, 1), api.ErrKid},
		{node(api.OpAdd, 8, 0, 0, 1), api.ErrKid}, {node(api.OpAdd, 8, 0, 4), api.ErrKid}, {node(api.OpAdd, 8, 4, 0), api.ErrKid}, {node(api.OpAdd, 0, 3, 3), api.ErrWidth}, {node(api.OpAdd, 8, 0, 1), api.ErrWidth}, {node(api.OpAdd, 64, 0, 0), api.ErrWidth},
		{node(api.OpEq, 1, 3, 3), api.ErrWidth}, {node(api.OpEq, 8, 0, 0), api.ErrWidth}, {node(api.OpEq, 1, 2, 2), api.OK},
		{node(api.OpIf, 8, 2, 0, 0), api.OK}, {node(api.OpIf, 8, 2, 0, 4), api.ErrKid}, {node(api.OpIf, 0, 2, 3, 3), api.ErrWidth}, {node(api.OpIf, 8, 0, 0, 0), api.ErrWidth}, {node(api.OpIf, 8, 2, 0, 1), api.ErrWidth}, {node(api.OpIf, 1, 2, 2, 2), api.OK},
		{node(api.OpGet, 8, 3, 1), api.OK}, {node(api.OpGet, 8, 3, 0), api.ErrWidth}, {node(api.OpGet, 8, 1, 1), api.ErrWidth}, {node(api.OpGet, 64, 3, 1), api.ErrWidth}, {node(api.OpGet, 8, 3, 1, 1), api.ErrKid},
		{node(api.OpPut, 0, 3, 1, 0), api.OK}, {node(api.OpPut, 0, 3, 1, 1), api.ErrWidth}, {node(api.OpPut, 0, 3, 0, 0), api.ErrWidth}, {node(api.OpPut, 0, 0, 1, 0), api.ErrWidth}, {node(api.OpPut, 8, 3, 1, 0), api.ErrWidth},
		{node(-1, 0), api.ErrOp}, {node(25, 0), api.ErrOp},
		// Several at once: the first in the chapter's order.
		{api.Node{Op: 25, W: -1, N: 9, K: [3]int{-1, 9, 9}}, api.ErrOp},
		{api.Node{Op: api.OpNot, W: 3, N: 9, K: [3]int{4}}, api.ErrKid}, {api.Node{Op: api.OpConst, W: 3, N: 999, K: [3]int{1}}, api.ErrKid},
		{api.Node{Op: api.OpConst, W: 7, N: 999}, api.ErrWidth}, {api.Node{Op: api.OpConst, W: -1, N: 999}, api.ErrWidth}, {api.Node{Op: api.OpInput, W: 64, N: 16}, api.ErrWidth}, {api.Node{Op: api.OpLow, W: 8, N: 1}, api.ErrWidth},
		{api.Node{Op: api.OpNot, W: 8, N: 1}, api.ErrRange},
	} {
		l, at := append(slices.Clone(ahead), x.n), 4
		if x.e == api.OK {
			at = 0
		}
		if e, got := Check(l); e != x.e || got != at {
			t.Error(x.n, e, got, x.e)
		}
		a := New()
		if _, e := a.Put(ahead); e != api.OK {
			t.Fatal(e)
		}
		if got, e := a.Make(x.n); e != x.e || e == api.OK && got != 4 || e != api.OK && (got != 0 || a.Len() != 4) {
			t.Error(x.n, got, e, x.e, a.Len())
		}
	}
}

// P6.1: the first node that is wrong is told, whatever is behind it.
func TestFirstWrongNode(t *testing.T) {
	d := draw(61)
	for range 3000 {
		l := grown(&d, 1+d.below(20))
		for range 1 + d.below(3) {
			n := &l[d.below(len(l))]
			switch d.below(4) {
			case 0:
				n.Op = d.among(-1, 25, math.MinInt, math.MaxInt, d.below(25))
			case 1:
				n.W = d.among(-1, 0, 1, 2, 8, 64, 65)
			case 2:
				n.N = uint64(d.among(0, 1, 2, 16, 256, math.MinInt))
			case 3:
				n.K[d.below(3)] = d.among(-1, d.below(25), math.MinInt, math.MaxInt)
			}
		}
		want, place := wrongIn(l)
		if e, at := Check(l); e != want || at != place {
			t.Fatal(l, e, at, want, place)
		}
	}
}

// P6.1: 65536 nodes are a term, one more are too many, unless one of the 65536 is wrong.
func TestMostNodes(t *testing.T) {
	if e, at := Check(blanks(65536)); e != api.OK || at != 0 {
		t.Error(e, at)
	}
	for _, more := range []int{1, 2, 1000} {
		if e, at := Check(blanks(65536 + more)); e != api.ErrFull || at != 65536 {
			t.Error(more, e, at)
		}
	}
	for _, place := range []int{0, 40000, 65535} {
		l := blanks(65537)
		l[place].N = 1
		if e, at := Check(l); e != api.ErrRange || at != place {
			t.Error(place, e, at)
		}
	}
	for _, place := range []int{65536, 65537} {
		l := blanks(65538)
		l[place].Op = 25
		if e, at := Check(l); e != api.ErrFull || at != 65536 {
			t.Error(place, e, at)
		}
	}
	last := append(blanks(65535), node(api.OpPut, 0, 65535, 0, 0))
	if e, at := Check(last); e != api.ErrKid || at != 65535 {
		t.Error(e, at)
	}
}

// P6.2: the chapter's example; a node that is there is told where it stands, and stays there.
func TestExample(t *testing.T) {
	a := New()
	if a.Len() != 0 || a.Asked() != 0 {
		t.Error(a.Len(), a.Asked())
	}
	example := []api.Node{node(api.OpInput, 8), node(api.OpWide, 64, 0), konst(64, 5), node(api.OpAdd, 64, 1, 2)}
	for round := range 2 {
		for i, n := range example {
			if at, e := a.Make(n); at != i || e != api.OK {
				t.Error(round, i, at, e)
			}
		}
	}
	if a.Len() != 4 || a.Asked() != 8 || !slices.Equal(snapshot(a), example) {
		t.Error(a.Len(), a.Asked(), snapshot(a))
	}
	if l := a.Term(3); !slices.Equal(l, example) {
		t.Error(l)
	}
}

// P6.2: nodes that differ in one field alone stand at unlike places.
func TestUnlikeNodes(t *testing.T) {
	a := New()
	all := []api.Node{
		konst(64, 0), konst(64, 1), konst(8, 1), konst(8, 0), konst(1, 0), konst(1, 1),
		node(api.OpMem, 0), node(api.OpBlank, 0), numbered(api.OpInput, 8, 0), numbered(api.OpInput, 8, 1), numbered(api.OpReg, 64, 0),
		node(api.OpAdd, 64, 0, 1), node(api.OpAdd, 64, 1, 0), node(api.OpAdd, 64, 0, 0), node(api.OpSub, 64, 0, 1),
		node(api.OpPut, 0, 6, 0, 2), node(api.OpPut, 0, 7, 0, 2), node(api.OpPut, 0, 7, 1, 2), node(api.OpPut, 0, 7, 1, 3),
	}
	for i, n := range all {
		if at, e := a.Make(n); at != i || e != api.OK {
			t.Error(n, at, e)
		}
	}
	for i, n := range all {
		if at, e := a.Make(n); at != i || e != api.OK {
			t.Error(n, at, e)
		}
		if got, ok := a.At(i); got != n || !ok {
			t.Error(i, got, ok)
		}
	}
}

// P6.2: At and Term of places where there is no node.
func TestNoSuchPlace(t *testing.T) {
	for _, size := range []int{0, 1, 5} {
		a := filled(t, size)
		for _, place := range []int{-1, size, size + 1, math.MinInt, math.MaxInt} {
			if n, ok := a.At(place); ok || n != (api.Node{}) {
				t.Error(size, place, n, ok)
			}
			if l := a.Term(place); len(l) != 0 {
				t.Error(size, place, l)
			}
		}
		for place := range size {
			if n, ok := a.At(place); !ok || n != konst(64, uint64(place)) {
				t.Error(size, place, n, ok)
			}
		}
	}
}

// P6.2: Make of all kinds of nodes, right and wrong, as the chapter says; what is wrong changes nothing, but how often Make was asked.
func TestMakeAsRuled(t *testing.T) {
	d := draw(62)
	told := map[api.Errno]int{}
	for range 40 {
		a, m := New(), &model{}
		for range 300 {
			n := api.Node{Op: d.among(d.below(25), d.below(25), d.below(25), d.below(8), -1, 25), W: d.among(0, 1, 8, 64, 64, 7), N: uint64(d.among(0, 0, 0, 0, 1, 2, 16))}
			for k := range n.K {
				if d.below(12) == 0 || k < Kids(n.Op) {
					n.K[k] = d.below(a.Len()+3) - 1
				}
			}
			at, e := a.Make(n)
			want, wantE := m.make(n)
			if at != want || e != wantE {
				t.Fatal(n, at, e, want, wantE)
			}
			told[e]++
		}
		m.holds(t, a)
	}
	for _, e := range []api.Errno{api.OK, api.ErrOp, api.ErrKid, api.ErrWidth, api.ErrRange} {
		if told[e] < 100 {
			t.Error(e, told)
		}
	}
}

// P6.2: a full arena tells the nodes that it has, and what is wrong of others ahead of that it is full.
func TestFullByMake(t *testing.T) {
	a := filled(t, 65536)
	for _, i := range []int{0, 7, 65535} {
		if at, e := a.Make(konst(64, uint64(i))); at != i || e != api.OK {
			t.Error(i, at, e)
		}
	}
	for _, n := range []api.Node{konst(64, 65536), node(api.OpBlank, 0), node(api.OpNot, 64, 65535)} {
		if at, e := a.Make(n); at != 0 || e != api.ErrFull {
			t.Error(n, at, e)
		}
	}
	for e, n := range map[api.Errno]api.Node{api.ErrOp: node(25, 0), api.ErrKid: node(api.OpNot, 64, 65536), api.ErrWidth: node(api.OpNot, 8, 0), api.ErrRange: konst(1, 2)} {
		if at, got := a.Make(n); at != 0 || got != e {
			t.Error(n, at, got)
		}
	}
	if a.Len() != 65536 || a.Asked() != 65536+3+3+4 {
		t.Error(a.Len(), a.Asked())
	}
	if _, ok := a.At(65536); ok {
		t.Error("a node too many")
	}
}

// P6.2: the last node that has room is made.
func TestLastRoom(t *testing.T) {
	a := filled(t, 65535)
	if at, e := a.Make(node(api.OpNot, 64, 65534)); at != 65535 || e != api.OK {
		t.Error(at, e)
	}
	if at, e := a.Make(node(api.OpNot, 64, 65533)); at != 0 || e != api.ErrFull {
		t.Error(at, e)
	}
	if l := a.Term(65535); !slices.Equal(l, []api.Node{konst(64, 65534), node(api.OpNot, 64, 0)}) {
		t.Error(l)
	}
}

// P6.3, P6.4: lists put into arenas with other nodes, again, and Terms of all places, as the chapter says.
func TestPutAsRuled(t *testing.T) {
	d := draw(63)
	for range 200 {
		a, m := New(), &model{}
		for range 1 + d.below(5) {
			l := grown(&d, 1+d.below(30))
			for range 2 {
				at, e := a.Put(l)
				want, wantE := m.put(l)
				if at != want || e != wantE {
					t.Fatal(l, at, e, want, wantE)
				}
			}
			m.holds(t, a)
		}
		for place := range a.Len() {
			if l := a.Term(place); !slices.Equal(l, m.term(place)) {
				t.Fatal(place, l, m.term(place))
			}
		}
	}
}

// P6.4: what is put is told, no node twice, and none on which the root doesn't hang; it is a term; put again it is where it was, and in a new arena the same.
func TestRoundTrip(t *testing.T) {
	d := draw(64)
	a := New()
	for range 400 {
		l := grown(&d, 1+d.below(14))
		at, e := a.Put(l)
		if e != api.OK {
			t.Fatal(e)
		}
		told := a.Term(at)
		if written(told, len(told)-1) != written(l, len(l)-1) {
			t.Fatal(l, told)
		}
		if e, _ := Check(told); e != api.OK {
			t.Fatal(told, e)
		}
		seen, needed := map[api.Node]bool{}, map[int]bool{}
		(&model{nodes: told}).collect(len(told)-1, needed)
		for i, n := range told {
			if seen[n] || !needed[i] {
				t.Fatal(told, i)
			}
			seen[n] = true
		}
		size := a.Len()
		if again, e := a.Put(told); again != at || e != api.OK || a.Len() != size {
			t.Fatal(told, again, at, e)
		}
		b := New()
		if root, e := b.Put(told); root != len(told)-1 || e != api.OK || !slices.Equal(b.Term(root), told) {
			t.Fatal(told, root, e)
		}
	}
}

// P6.3: the term of a node keeps the order of the arena, not that of the list.
func TestOrderOfTerm(t *testing.T) {
	a := New()
	for _, n := range []api.Node{konst(64, 9), numbered(api.OpReg, 64, 1), numbered(api.OpReg, 64, 0)} {
		a.Make(n)
	}
	at, e := a.Put([]api.Node{numbered(api.OpReg, 64, 0), konst(8, 1), numbered(api.OpReg, 64, 1), node(api.OpSub, 64, 0, 2)})
	if at != 4 || e != api.OK || a.Len() != 5 || a.Asked() != 7 {
		t.Error(at, e, a.Len(), a.Asked())
	}
	if l := a.Term(at); !slices.Equal(l, []api.Node{numbered(api.OpReg, 64, 1), numbered(api.OpReg, 64, 0), node(api.OpSub, 64, 1, 0)}) {
		t.Error(l)
	}
}

// P6.3: nodes that become the same by where their kids are Made are one; the root may be one that was there.
func TestNodesThatBecomeOne(t *testing.T) {
	a := New()
	l := []api.Node{konst(8, 4), konst(8, 4), node(api.OpNot, 8, 0), node(api.OpNot, 8, 1), node(api.OpAdd, 8, 2, 3), konst(8, 4)}
	if at, e := a.Put(l); at != 0 || e != api.OK || a.Len() != 3 || a.Asked() != 6 {
		t.Error(at, e, a.Len(), a.Asked())
	}
	if got := a.Term(2); !slices.Equal(got, []api.Node{konst(8, 4), node(api.OpNot, 8, 0), node(api.OpAdd, 8, 1, 1)}) {
		t.Error(got)
	}
	if got := a.Term(0); !slices.Equal(got, []api.Node{konst(8, 4)}) {
		t.Error(got)
	}
}

// P6.3: what Check refuses changes nothing, not even how often Make was asked.
func TestPutOfWrongLists(t *testing.T) {
	a := New()
	a.Put([]api.Node{konst(8, 4), node(api.OpNot, 8, 0)})
	before := snapshot(a)
	many := constants(0, 65537)
	for _, x := range []struct {
		l []api.Node
		e api.Errno
	}{
		{nil, api.ErrNone}, {[]api.Node{}, api.ErrNone},
		{[]api.Node{konst(8, 5), node(25, 0), node(api.OpNot, 8, 9)}, api.ErrOp},
		{[]api.Node{konst(8, 5), node(api.OpNot, 8, 1)}, api.ErrKid},
		{[]api.Node{konst(8, 5), node(api.OpNot, 64, 0), node(25, 0)}, api.ErrWidth},
		{[]api.Node{konst(8, 5), konst(8, 256)}, api.ErrRange},
		{many, api.ErrFull},
		{append(slices.Clone(many[:65535]), konst(1, 2), konst(1, 2)), api.ErrRange},
		// More than there may be in a list, though each is there already.
		{slices.Repeat(before[:1], 65537), api.ErrFull},
		// A kid that isn't ahead in the list, though the arena has such a place.
		{[]api.Node{node(api.OpNot, 8, 0)}, api.ErrKid},
	} {
		if at, e := a.Put(x.l); at != 0 || e != x.e {
			t.Error(len(x.l), at, e, x.e)
		}
		if !slices.Equal(snapshot(a), before) || a.Asked() != 2 {
			t.Error(x.e, a.Len(), a.Asked())
		}
	}
}

// P6.3: where there isn't room for all, what was Made stays, up to the first that has none.
func TestFullByPut(t *testing.T) {
	a := filled(t, 65534)
	l := []api.Node{konst(64, 3), konst(8, 1), konst(64, 4), konst(8, 2), node(api.OpAdd, 8, 1, 3), konst(64, 5)}
	if at, e := a.Put(l); at != 0 || e != api.ErrFull {
		t.Error(at, e)
	}
	if a.Len() != 65536 || a.Asked() != 65534+5 {
		t.Error(a.Len(), a.Asked())
	}
	for place, n := range map[int]api.Node{65533: konst(64, 65533), 65534: konst(8, 1), 65535: konst(8, 2)} {
		if got, ok := a.At(place); got != n || !ok {
			t.Error(place, got, ok)
		}
	}
	if at, e := a.Put(l[:4]); at != 65535 || e != api.OK {
		t.Error("all of it is there:", at, e)
	}
	if at, e := a.Put(l[:3]); at != 4 || e != api.OK {
		t.Error("all of it is there:", at, e)
	}
	if at, e := a.Put([]api.Node{node(25, 0)}); at != 0 || e != api.ErrOp {
		t.Error(at, e)
	}
}

// P6.3: a list of 65536 nodes has room in a new arena; its root hangs on all of them, or on itself alone.
func TestGreatestTerm(t *testing.T) {
	l := constants(0, 1)
	for len(l) < 65536 {
		l = append(l, node(api.OpAdd, 64, len(l)-1, 0))
	}
	a := New()
	if at, e := a.Put(l); at != 65535 || e != api.OK || !slices.Equal(a.Term(at), l) {
		t.Error(at, e)
	}
	if at, e := a.Put(l); at != 65535 || e != api.OK || a.Len() != 65536 || a.Asked() != 2*65536 {
		t.Error(at, e, a.Len(), a.Asked())
	}
	b := New()
	if at, e := b.Put(blanks(65536)); at != 0 || e != api.OK || b.Len() != 1 || b.Asked() != 65536 {
		t.Error(at, e, b.Len(), b.Asked())
	}
}

// Rule 3: lists that are handed in aren't changed, nor their spare room, and aren't kept.
func TestListsHandedIn(t *testing.T) {
	d := draw(65)
	for range 100 {
		l := roomy(grown(&d, 1+d.below(20)))
		before := whole(l)
		Check(l)
		a := New()
		a.Put(others())
		at, e := a.Put(l)
		if e != api.OK || !slices.Equal(whole(l), before) {
			t.Fatal(e, l)
		}
		nodes, told := snapshot(a), a.Term(at)
		spoil(l)
		if !slices.Equal(snapshot(a), nodes) || !slices.Equal(a.Term(at), told) {
			t.Fatal("kept")
		}
	}
}

// others is some nodes that stand ahead in an arena, so that kids are moved.
func others() []api.Node {
	return []api.Node{konst(8, 77), konst(8, 78), node(api.OpMul, 8, 0, 1)}
}

// Rule 3: what is answered is new memory each time.
func TestListsAnswered(t *testing.T) {
	a := New()
	at, _ := a.Put([]api.Node{konst(8, 1), node(api.OpNot, 8, 0), node(api.OpAdd, 8, 0, 1)})
	first, second := a.Term(at), a.Term(at)
	want, nodes := slices.Clone(first), snapshot(a)
	spoil(first)
	if !slices.Equal(second, want) || !slices.Equal(a.Term(at), want) || !slices.Equal(snapshot(a), nodes) {
		t.Error(second, a.Term(at), snapshot(a))
	}
	n, _ := a.At(0)
	n.N, n.K[0] = 9, 9
	if m, _ := a.At(0); m != konst(8, 1) {
		t.Error(m)
	}
}

// Rule 4: arenas have nothing of each other.
func TestArenasApart(t *testing.T) {
	a, b := New(), New()
	a.Make(konst(8, 1))
	if b.Len() != 0 || b.Asked() != 0 {
		t.Error(b.Len(), b.Asked())
	}
	if at, e := b.Make(konst(8, 2)); at != 0 || e != api.OK || a.Len() != 1 || a.Asked() != 1 {
		t.Error(at, e, a.Len(), a.Asked())
	}
	if n, _ := a.At(0); n != konst(8, 1) {
		t.Error(n)
	}
}
