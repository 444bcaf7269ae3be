package swap

import (
	"maps"
	"math"
	"slices"
	"testing"

	"backreach/api"
	"backreach/term"
	"backreach/value"
)

// draw is a row of numbers that is the same each time.
type draw uint64

func (d *draw) next() uint64 {
	*d = *d*6364136223846793005 + 1442695040888963407
	x := uint64(*d)
	return (x ^ x>>33) * 0xff51afd7ed558ccd
}

func (d *draw) below(n int) int {
	return int(d.next() >> 11 % uint64(n))
}

func (d *draw) among(x ...int) int {
	return x[d.below(len(x))]
}

// some is a number of 64 bits, mostly a small one, so that numbers often are the same.
func (d *draw) some() uint64 {
	if d.below(6) == 0 {
		return d.next()
	}
	return []uint64{0, 0, 0, 0, 1 << 63, 256, math.MaxUint64 - 2}[d.below(7)] + uint64(d.below(4))
}

func (d *draw) bytes(n int) []byte {
	b := make([]byte, n)
	for i := range b {
		b[i] = byte(d.some())
	}
	return b
}

func (d *draw) env() api.Env {
	e := api.Env{Input: d.bytes(d.among(0, 1, 3, 16)), Mem: d.bytes(d.among(0, 1, 5, 64))}
	for i := range e.Regs {
		e.Regs[i] = d.some()
	}
	return e
}

func konst(w int, n uint64) api.Node {
	return api.Node{Op: api.OpConst, W: w, N: n}
}

func input(n uint64) api.Node {
	return api.Node{Op: api.OpInput, W: 8, N: n}
}

func reg(n uint64) api.Node {
	return api.Node{Op: api.OpReg, W: 64, N: n}
}

func node(op, w int, kids ...int) api.Node {
	n := api.Node{Op: op, W: w}
	copy(n.K[:], kids)
	return n
}

// kidsOf is the kids that a node has, by its operation, written a second time.
func kidsOf(n api.Node) []int {
	switch {
	case n.Op <= api.OpBlank:
		return nil
	case n.Op == api.OpNot, n.Op == api.OpWide, n.Op == api.OpLow:
		return slices.Clone(n.K[:1])
	case n.Op == api.OpIf, n.Op == api.OpPut:
		return slices.Clone(n.K[:])
	}
	return slices.Clone(n.K[:2])
}

// ground is an arena in which nodes are made as they are.
type ground struct {
	t *testing.T
	*term.Arena
}

func newGround(t *testing.T) ground {
	return ground{t, term.New()}
}

func (g ground) made(n api.Node) int {
	g.t.Helper()
	at, wrong := g.Make(n)
	if wrong != api.OK {
		g.t.Fatal(n, wrong)
	}
	return at
}

func (g ground) makes(op, w int, kids ...int) int {
	g.t.Helper()
	return g.made(node(op, w, kids...))
}

// nodes is all that stand there.
func (g ground) nodes() []api.Node {
	var l []api.Node
	for i := range g.Len() {
		n, _ := g.At(i)
		l = append(l, n)
	}
	return l
}

// again is an arena with the same nodes.
func (g ground) again() ground {
	h := newGround(g.t)
	for _, n := range g.nodes() {
		h.made(n)
	}
	return h
}

// filled makes constants till there is room for so many nodes more alone.
func (g ground) filled(room int) {
	for i := uint64(1 << 40); g.Len() < 65536-room; i++ {
		g.made(konst(64, i))
	}
}

// unchanged holds what is there, and how often it was asked, against what was.
func (g ground) unchanged(was []api.Node, asked int) {
	g.t.Helper()
	if !slices.Equal(g.nodes(), was) || g.Asked() != asked {
		g.t.Fatal("changed", len(was), g.Len(), asked, g.Asked())
	}
}

// has is the places of the nodes that a node's term has, written a second time.
func (g ground) has(place int) map[int]bool {
	found, waiting := map[int]bool{}, []int{place}
	for len(waiting) > 0 {
		at := waiting[0]
		waiting = waiting[1:]
		if !found[at] {
			found[at] = true
			n, _ := g.At(at)
			waiting = append(waiting, kidsOf(n)...)
		}
	}
	return found
}

// plain is the swapped term, none of its nodes made smaller: the chapter's words written a second time.
func (g ground) plain(root int, from, to []int) []api.Node {
	h := g.again()
	var now []int
	for place, n := range g.nodes()[:root+1] {
		first := slices.Index(from, place)
		if first >= 0 {
			now = append(now, to[first])
			continue
		}
		for k, kid := range kidsOf(n) {
			n.K[k] = now[kid]
		}
		now = append(now, h.made(n))
	}
	return h.Term(now[root])
}

// spare is a copy of the list with spare room behind it, that isn't empty.
func spare(l []int) []int {
	return append(slices.Clone(l), 77, -78)[:len(l)]
}

// swaps swaps, and looks that the lists are as they were, that no node went or moved, that no more came than the term has, and that there is what is answered.
func (g ground) swaps(root int, from, to []int) int {
	g.t.Helper()
	first, second := spare(from), spare(to)
	was, size := g.nodes(), len(g.Term(root))
	at, wrong := Swap(g.Arena, root, first, second)
	if wrong != api.OK || at < 0 || at >= g.Len() {
		g.t.Fatal(was, root, from, to, at, wrong)
	}
	for _, x := range []struct{ list, was []int }{{first, from}, {second, to}} {
		if !slices.Equal(x.list, x.was) || !slices.Equal(x.list[:len(x.list)+2][len(x.list):], []int{77, -78}) {
			g.t.Fatal("lists changed", x)
		}
	}
	if !slices.Equal(g.nodes()[:len(was)], was) || g.Len() > len(was)+size {
		g.t.Fatal(was, g.nodes(), root, from, to)
	}
	if x, _ := g.At(root); x.W != g.width(at) {
		g.t.Fatal("widths", x.W, g.width(at))
	}
	return at
}

// stays swaps what is to be answered by the root itself, without a node more.
func (g ground) stays(root int, from, to []int) {
	g.t.Helper()
	was := g.nodes()
	if at := g.swaps(root, from, to); at != root || g.Len() != len(was) {
		g.t.Fatal(was, root, from, to, at)
	}
}

// numbersToAsk is numbers at which arrays are asked.
func numbersToAsk(e api.Env) []uint64 {
	return append([]uint64{0, 1, 2, 3, 4, 5, 63, 64, 77, 255, 256, 257, 1 << 60, 1<<63 + 1, math.MaxUint64}, e.Regs[:]...)
}

// sameValue holds the values of two terms in an environment, or the bytes of two arrays, against each other, by layer 7.
func sameValue(t *testing.T, l, m []api.Node, e api.Env) {
	t.Helper()
	v, wrong := value.Of(l, e)
	if x, alsoWrong := value.Of(m, e); x != v || alsoWrong != wrong {
		t.Fatal(l, m, e, v, wrong, x, alsoWrong)
	}
	if wrong == api.OK {
		return
	}
	for _, at := range numbersToAsk(e) {
		b, wrong := value.Byte(l, e, at)
		if c, alsoWrong := value.Byte(m, e, at); c != b || wrong != api.OK || alsoWrong != api.OK {
			t.Fatal(l, m, e, at, b, wrong, c, alsoWrong)
		}
	}
}

// sameInMany does so in many environments; in the last ones all bytes and registers are alike.
func sameInMany(t *testing.T, d *draw, l, m []api.Node) {
	t.Helper()
	for range 12 {
		sameValue(t, l, m, d.env())
	}
	for b := range uint64(4) {
		x := b * (math.MaxUint64 / 3)
		sameValue(t, l, m, api.Env{Input: slices.Repeat([]byte{byte(x)}, 16), Mem: []byte{1, 2}, Regs: [8]uint64{x, x, x, x, x, x, x, x}})
	}
}

// differs tells whether two terms have unlike values in some environment.
func differs(d *draw, l, m []api.Node) bool {
	for range 12 {
		e := d.env()
		v, wrong := value.Of(l, e)
		if wrong == api.OK {
			if x, _ := value.Of(m, e); x != v {
				return true
			}
			continue
		}
		for _, at := range numbersToAsk(e) {
			b, _ := value.Byte(l, e, at)
			if c, _ := value.Byte(m, e, at); b != c {
				return true
			}
		}
	}
	return false
}

// drawn is a node behind others, that need not be right.
func drawn(d *draw, l []api.Node) api.Node {
	n := api.Node{Op: api.OpNot + d.below(20), W: d.among(0, 1, 8, 64)}
	switch d.below(12) {
	case 0, 1:
		n.Op = api.OpPut
	case 2:
		n.Op = api.OpGet
	case 3:
		n.Op = api.OpIf
	case 4:
		return konst(d.among(1, 8, 64), uint64(d.below(3)))
	}
	count := len(kidsOf(n))
	for k := range count {
		n.K[k] = max(d.below(len(l)), d.below(len(l)))
	}
	if count > 1 && d.below(8) == 0 {
		n.K[count-1] = n.K[count-2]
	}
	return n
}

// grown is a ground with leaves of all kinds, and behind them nodes of all kinds that were made as they are, till there are so many.
func grown(t *testing.T, d *draw, size int) ground {
	g := newGround(t)
	leaves := []api.Node{reg(0), reg(1), reg(2), input(0), input(1), node(api.OpMem, 0), node(api.OpBlank, 0), konst(64, 0), konst(64, 1), konst(8, 1), konst(1, 0), konst(1, 1), konst(64, d.some())}
	// Place 0, which nodes name that have fewer kids, is of each kind in turn.
	first := d.below(len(leaves))
	for i := range leaves {
		g.made(leaves[(first+i)%len(leaves)])
	}
	// Enough of each width to choose from.
	in, in1, r0, r1, mem := g.made(input(0)), g.made(input(1)), g.made(reg(0)), g.made(reg(1)), g.makes(api.OpMem, 0)
	g.makes(api.OpEq, 1, in, in1)
	g.makes(api.OpBelow, 1, r0, r1)
	g.makes(api.OpPut, 0, mem, r0, in)
	g.makes(api.OpGet, 8, mem, r1)
	for l := g.nodes(); len(l) < size; {
		n := drawn(d, l)
		// What isn't right isn't made, and what is there is no node more.
		if _, wrong := g.Make(n); wrong == api.OK && g.Len() > len(l) {
			l = append(l, n)
		}
	}
	return g
}

// width is the width of the node at a place.
func (g ground) width(place int) int {
	n, there := g.At(place)
	if !there {
		g.t.Fatal("no node", place)
	}
	return n.W
}

// like is a place that has a node of the same width as another one, and is one of those that are right for it.
func (g ground) like(d *draw, place int, right func(place int) bool) (int, bool) {
	var l []int
	for at := range g.Len() {
		if g.width(at) == g.width(place) && right(at) {
			l = append(l, at)
		}
	}
	if len(l) == 0 {
		return 0, false
	}
	return l[d.below(len(l))], true
}

// root is a place whose node has a great term; every fourth time an array's.
func (g ground) root(d *draw) int {
	best, most := 0, 0
	arrays := d.below(4) == 0
	for range 24 {
		at := d.below(g.Len())
		if size := len(g.Term(at)); size > most && arrays == (g.width(at) == 0) {
			best, most = at, size
		}
	}
	return best
}

// pairs is two lists of so many places, nodes of the root's term mostly, some of them twice, and others of their widths.
func (g ground) pairs(d *draw, root, count int) ([]int, []int) {
	in := slices.Sorted(maps.Keys(g.has(root)))
	var from, to []int
	for range count {
		place := in[d.below(len(in))]
		switch {
		case d.below(8) == 0:
			place = d.below(g.Len())
		case d.below(6) == 0 && len(from) > 0:
			place = from[d.below(len(from))]
		}
		other, _ := g.like(d, place, func(int) bool { return true })
		from, to = append(from, place), append(to, other)
	}
	return from, to
}

// P9.1: the chapter's example: in r0 and r1, added, r1 for r0 is twice r1.
func TestExample(t *testing.T) {
	d := draw(91)
	g := newGround(t)
	r0, r1 := g.made(reg(0)), g.made(reg(1))
	sum := g.makes(api.OpAdd, 64, r0, r1)
	at := g.swaps(sum, []int{r0}, []int{r1})
	for range 50 {
		e := d.env()
		if v, wrong := value.Of(g.Term(at), e); wrong != api.OK || v != 2*e.Regs[1] {
			t.Error(e, v, wrong)
		}
	}
	if Hangs(g.Arena, at, r0) || !Hangs(g.Arena, at, r1) || !Hangs(g.Arena, sum, r0) {
		t.Error(g.Term(at))
	}
}

// P9.1: leaves and nodes of each kind swapped for others of their width, held against terms that are written out.
func TestWrittenOut(t *testing.T) {
	d := draw(92)
	l := []api.Node{
		reg(0), reg(1), input(0), input(1), node(api.OpMem, 0), node(api.OpBlank, 0), konst(64, 5), konst(8, 9), // 0 to 7
		node(api.OpPut, 0, 4, 0, 2), node(api.OpGet, 8, 8, 1), node(api.OpMul, 8, 9, 7), node(api.OpWide, 64, 10), node(api.OpSub, 64, 11, 6), // 8 to 12
		node(api.OpBelow, 1, 0, 12), node(api.OpIf, 64, 13, 0, 12), node(api.OpNot, 1, 13), // 13 to 15
	}
	for i, x := range []struct {
		root     int
		from, to []int
		want     []api.Node
	}{
		// Leaves that are roots, alone.
		{0, []int{0}, []int{1}, l[1:2]},
		{7, []int{7}, []int{3}, l[3:4]},
		{4, []int{4}, []int{8}, []api.Node{reg(0), input(0), node(api.OpMem, 0), node(api.OpPut, 0, 2, 0, 1)}},
		// A register, an input byte, the memory, a constant, each somewhere below.
		{12, []int{1}, []int{0}, []api.Node{input(0), konst(8, 9), node(api.OpMul, 8, 0, 1), node(api.OpWide, 64, 2), konst(64, 5), node(api.OpSub, 64, 3, 4)}},
		{9, []int{2}, []int{7}, []api.Node{reg(0), reg(1), konst(8, 9), node(api.OpMem, 0), node(api.OpPut, 0, 3, 0, 2), node(api.OpGet, 8, 4, 1)}},
		{9, []int{4}, []int{5}, []api.Node{reg(0), reg(1), input(0), konst(8, 0), node(api.OpEq, 1, 0, 1), node(api.OpIf, 8, 4, 2, 3)}},
		{10, []int{7}, []int{3}, []api.Node{reg(0), reg(1), input(0), input(1), node(api.OpMem, 0), node(api.OpPut, 0, 4, 0, 2), node(api.OpGet, 8, 5, 1), node(api.OpMul, 8, 6, 3)}},
		{8, []int{2}, []int{3}, []api.Node{reg(0), input(1), node(api.OpMem, 0), node(api.OpPut, 0, 2, 0, 1)}},
		// Nodes in the middle: a byte, an array, a bit.
		{12, []int{9}, []int{3}, []api.Node{input(1), konst(8, 9), node(api.OpMul, 8, 0, 1), node(api.OpWide, 64, 2), konst(64, 5), node(api.OpSub, 64, 3, 4)}},
		{9, []int{8}, []int{4}, []api.Node{reg(1), node(api.OpMem, 0), node(api.OpGet, 8, 1, 0)}},
		{15, []int{13}, []int{15}, []api.Node{reg(0), reg(1), node(api.OpMem, 0), input(0), node(api.OpPut, 0, 2, 0, 3), node(api.OpGet, 8, 4, 1), konst(8, 9), node(api.OpMul, 8, 5, 6), node(api.OpWide, 64, 7), konst(64, 5), node(api.OpSub, 64, 8, 9), node(api.OpBelow, 1, 0, 10)}},
		// Both places at once, and turned round.
		{11, []int{0, 1}, []int{1, 0}, []api.Node{reg(0), reg(1), input(0), node(api.OpMem, 0), node(api.OpPut, 0, 3, 1, 2), node(api.OpGet, 8, 4, 0), konst(8, 9), node(api.OpMul, 8, 5, 6), node(api.OpWide, 64, 7)}},
		// A node and what it hangs on: it goes as a whole.
		{14, []int{0, 12, 1}, []int{1, 0, 6}, []api.Node{reg(0), reg(1), node(api.OpBelow, 1, 1, 0), node(api.OpIf, 64, 2, 1, 0)}},
	} {
		g := newGround(t)
		if _, wrong := g.Put(l); wrong != api.OK {
			t.Fatal(wrong)
		}
		at := g.swaps(x.root, x.from, x.to)
		for range 40 {
			// Registers that are often the same number, so that what is put is what is got.
			e := d.env()
			e.Regs[d.below(2)] = e.Regs[d.below(2)]
			sameValue(t, x.want, g.Term(at), e)
		}
		if !differs(&d, x.want, g.Term(x.root)) {
			t.Error(i, "the swap tells nothing")
		}
	}
}

// P9.1: terms of all kinds, and any pairs, several at once, held against the chapter's words in many environments.
func TestAsRuled(t *testing.T) {
	d := draw(93)
	changed, twice, arrays, inner := 0, 0, 0, 0
	for range 1500 {
		g := grown(t, &d, 30+d.below(60))
		root := g.root(&d)
		from, to := g.pairs(&d, root, 1+d.below(5))
		want := g.plain(root, from, to)
		at := g.swaps(root, from, to)
		sameInMany(t, &d, want, g.Term(at))
		if differs(&d, want, g.Term(root)) {
			changed++
		}
		for i, place := range from {
			n, _ := g.At(place)
			if slices.Contains(from[:i], place) {
				twice++
			}
			if len(kidsOf(n)) > 0 && place != root {
				inner++
			}
		}
		if g.width(root) == 0 {
			arrays++
		}
	}
	if changed < 500 || twice < 200 || arrays < 100 || inner < 500 {
		t.Error(changed, twice, arrays, inner)
	}
}

// P9.1: each node of a term is swapped alone, for each node of its width.
func TestEachNodeForEachOther(t *testing.T) {
	d := draw(94)
	for range 6 {
		g := grown(t, &d, 40)
		root := g.root(&d)
		size := g.Len()
		for place := range size {
			for other := range size {
				if g.width(place) != g.width(other) {
					continue
				}
				h := g.again()
				want := h.plain(root, []int{place}, []int{other})
				sameInMany(t, &d, want, h.Term(h.swaps(root, []int{place}, []int{other})))
			}
		}
	}
}

// P9.1: terms are swapped in an arena that grows with what was swapped ahead, which plays no part.
func TestManySwapsInOneArena(t *testing.T) {
	d := draw(95)
	for range 8 {
		g := grown(t, &d, 50)
		for range 60 {
			root := g.root(&d)
			from, to := g.pairs(&d, root, 1+d.below(3))
			h := g.again()
			want := g.plain(root, from, to)
			at := g.swaps(root, from, to)
			sameInMany(t, &d, want, g.Term(at))
			if also := h.swaps(root, from, to); also != at || !slices.Equal(h.nodes(), g.nodes()) {
				t.Fatal("another arena, another answer", at, also)
			}
			// What was swapped once is there, so that it is where it was, without a node more.
			size := g.Len()
			if also := g.swaps(root, from, to); also != at || g.Len() != size {
				t.Fatal("swapped again, another answer", at, also)
			}
		}
	}
}

// P9.1: the first pair counts where a node stands twice among the first ones.
func TestFirstPairCounts(t *testing.T) {
	g := newGround(t)
	r0, r1, r2, r3 := g.made(reg(0)), g.made(reg(1)), g.made(reg(2)), g.made(reg(3))
	root := g.makes(api.OpSub, 64, g.makes(api.OpMul, 64, r0, r3), r1)
	e := api.Env{Regs: [8]uint64{3, 10, 100, 1000}}
	for i, x := range []struct {
		from, to []int
		want     uint64
	}{
		{[]int{r0, r0}, []int{r1, r2}, 10*1000 - 10}, {[]int{r0, r0}, []int{r2, r1}, 100*1000 - 10},
		{[]int{r0, r0}, []int{r0, r1}, 3*1000 - 10}, {[]int{r0, r0, r0}, []int{r1, r0, r1}, 10*1000 - 10},
		{[]int{r0, r0, r1, r0, r1}, []int{r3, r3, r2, r2, r0}, 1000*1000 - 100}, {[]int{r0, r1, r0, r1}, []int{r1, r0, r2, r2}, 10*1000 - 3},
		{[]int{r2, r0, r2, r0}, []int{r3, r2, r0, r1}, 100*1000 - 10},
		{[]int{root, root}, []int{r2, r1}, 100}, {[]int{root, r0, root}, []int{root, r2, r1}, 3*1000 - 10},
	} {
		if v, wrong := value.Of(g.Term(g.swaps(root, x.from, x.to)), e); v != x.want || wrong != api.OK {
			t.Error(i, v, wrong)
		}
	}
}

// P9.1: what is put in is not gone into, also where it has the node that is swapped, or another of the first ones.
func TestPutInIsNotGoneInto(t *testing.T) {
	g := newGround(t)
	r0, r1, r2 := g.made(reg(0)), g.made(reg(1)), g.made(reg(2))
	sum := g.makes(api.OpAdd, 64, r0, r1)
	twice := g.makes(api.OpMul, 64, sum, sum)
	root := g.makes(api.OpSub, 64, twice, r0)
	e := api.Env{Regs: [8]uint64{3, 10, 100}}
	for i, x := range []struct {
		from, to []int
		want     uint64
	}{
		{[]int{r0}, []int{sum}, 23*23 - 13}, {[]int{r0}, []int{root}, 176*176 - 166}, {[]int{r1}, []int{sum}, 16*16 - 3},
		{[]int{r0, r1}, []int{r1, r0}, 13*13 - 10}, {[]int{r0, r1}, []int{r1, r2}, 110*110 - 10}, {[]int{r0, r1, r2}, []int{r1, r2, r0}, 110*110 - 10},
		{[]int{sum}, []int{twice}, 169*169 - 3}, {[]int{sum, twice}, []int{twice, sum}, 10}, {[]int{sum, r0}, []int{r0, sum}, math.MaxUint64 - 3},
		{[]int{root}, []int{sum}, 13}, {[]int{root, r0}, []int{twice, r2}, 169},
	} {
		if v, wrong := value.Of(g.Term(g.swaps(root, x.from, x.to)), e); v != x.want || wrong != api.OK {
			t.Error(i, v, x.want, wrong)
		}
	}
}

// P9.1: the root may be one of the first ones: it is the other one then, whatever hangs on what, and nothing is made.
func TestRootIsSwapped(t *testing.T) {
	d := draw(96)
	for range 60 {
		g := grown(t, &d, 40)
		root := g.root(&d)
		other, _ := g.like(&d, root, func(int) bool { return true })
		from, to := g.pairs(&d, root, d.below(3))
		was, asked := g.nodes(), g.Asked()
		// None of the pairs ahead has the root among its first ones.
		var first, second []int
		for i, place := range from {
			if place != root {
				first, second = append(first, place), append(second, to[i])
			}
		}
		if at := g.swaps(root, append(first, root), append(second, other)); at != other {
			t.Fatal(at, other)
		}
		g.unchanged(was, asked)
	}
}

// P9.1: a node that is swapped for itself leaves the root where it is, whichever it is; so do all of them at once, and no pairs at all.
func TestNodesForThemselves(t *testing.T) {
	d := draw(97)
	for range 40 {
		g := grown(t, &d, 50)
		root := g.root(&d)
		var all []int
		for place := range g.Len() {
			g.stays(root, []int{place}, []int{place})
			all = append(all, place)
		}
		g.stays(root, all, all)
		g.stays(root, nil, nil)
		g.stays(root, []int{}, nil)
		g.stays(root, nil, []int{})
		// The first pair counts: those behind it play no part.
		from, to := g.pairs(&d, root, 4)
		g.stays(root, append(slices.Clone(all), from...), append(slices.Clone(all), to...))
	}
}

// P9.1: root itself is answered, if its term has none of from, though layer 8 would make it smaller, and though what is swapped hangs on it.
func TestNoneOfFrom(t *testing.T) {
	d := draw(98)
	for range 100 {
		g := grown(t, &d, 50)
		root := g.root(&d)
		in := g.has(root)
		var from, to []int
		for place := range g.Len() {
			if !in[place] {
				other, _ := g.like(&d, place, func(int) bool { return true })
				g.stays(root, []int{place}, []int{other})
				from, to = append(from, place), append(to, other)
			}
		}
		g.stays(root, from, to)
	}
	g := newGround(t)
	r0, zero, one := g.made(reg(0)), g.made(konst(64, 0)), g.made(konst(64, 1))
	r1, r2 := g.made(reg(1)), g.made(reg(2))
	for _, n := range []api.Node{
		node(api.OpSub, 64, r0, r0), node(api.OpAdd, 64, r0, zero), node(api.OpMul, 64, r0, one), node(api.OpAdd, 64, one, one), node(api.OpEq, 1, r0, r0),
		node(api.OpIf, 64, g.made(konst(1, 1)), r0, zero), node(api.OpNot, 64, g.makes(api.OpNot, 64, r0)), node(api.OpGet, 8, g.makes(api.OpBlank, 0), r0),
	} {
		root := g.made(n)
		g.stays(root, []int{r1}, []int{r2})
		g.stays(root, []int{r1, r2}, []int{r0, r1})
	}
}

// P9.3: where each node's value is that of the one beside it, the value stays.
func TestSameValuesBeside(t *testing.T) {
	d := draw(99)
	for range 300 {
		g := grown(t, &d, 50)
		root := g.root(&d)
		from, _ := g.pairs(&d, root, 1+d.below(4))
		var to []int
		for _, place := range from {
			to = append(to, g.alike(&d, place))
		}
		sameInMany(t, &d, g.Term(root), g.Term(g.swaps(root, from, to)))
	}
}

// alike is another node that has a node's value in every environment.
func (g ground) alike(d *draw, place int) int {
	n, _ := g.At(place)
	if n.W == 0 {
		r0 := g.made(reg(0))
		return g.makes(api.OpPut, 0, place, r0, g.makes(api.OpGet, 8, place, r0))
	}
	other, _ := g.like(d, place, func(int) bool { return true })
	switch d.below(4) {
	case 0:
		return g.makes(api.OpNot, n.W, g.makes(api.OpNot, n.W, place))
	case 1:
		return g.makes(api.OpAdd, n.W, g.made(konst(n.W, 0)), place)
	case 2:
		return g.makes(api.OpXor, n.W, other, g.makes(api.OpXor, n.W, place, other))
	}
	return g.makes(api.OpIf, n.W, g.makes(api.OpEq, 1, place, other), other, place)
}

// freeOf tells whether a node's term has none of some places.
func (g ground) freeOf(place int, some []int) bool {
	in := g.has(place)
	return !slices.ContainsFunc(some, func(at int) bool { return in[at] })
}

// P9.3: swapped one behind the other, or both at once, is the same, where what is put in first has none of the second ones. (The second ones are leaves here, as a swap may make any other node.)
func TestOneBehindTheOther(t *testing.T) {
	d := draw(100)
	told, changed := 0, 0
	for range 1500 {
		g := grown(t, &d, 30+d.below(50))
		root := g.root(&d)
		leaves := []int{g.made(reg(0)), g.made(reg(1)), g.made(reg(2)), g.made(input(0)), g.made(input(1)), g.makes(api.OpMem, 0)}
		var second, secondTo []int
		for range 1 + d.below(3) {
			place := leaves[d.below(len(leaves))]
			other, _ := g.like(&d, place, func(int) bool { return true })
			second, secondTo = append(second, place), append(secondTo, other)
		}
		var first, firstTo []int
		from, _ := g.pairs(&d, root, 1+d.below(3))
		for _, place := range from {
			if other, found := g.like(&d, place, func(at int) bool { return g.freeOf(at, second) }); found {
				first, firstTo = append(first, place), append(firstTo, other)
			}
		}
		between := g.swaps(root, first, firstTo)
		behind := g.swaps(between, second, secondTo)
		once := g.swaps(root, slices.Concat(first, second), slices.Concat(firstTo, secondTo))
		sameInMany(t, &d, g.Term(once), g.Term(behind))
		if len(first) > 0 && between != root && behind != between {
			told++
		}
		if differs(&d, g.Term(between), g.Term(once)) && differs(&d, g.Term(root), g.Term(between)) {
			changed++
		}
	}
	if told < 300 || changed < 100 {
		t.Error(told, changed)
	}
}

// P9.3: a register that is one of from is nowhere in the term that is answered, unless one of to hangs on it.
func TestRegistersGo(t *testing.T) {
	d := draw(101)
	gone := 0
	for range 800 {
		g := grown(t, &d, 30+d.below(50))
		root := g.root(&d)
		var from, to []int
		for _, place := range []int{g.made(reg(0)), g.made(reg(1)), g.made(reg(2))}[:1+d.below(3)] {
			other, _ := g.like(&d, place, func(int) bool { return true })
			from, to = append(from, place), append(to, other)
		}
		more, moreTo := g.pairs(&d, root, d.below(3))
		from, to = append(from, more...), append(to, moreTo...)
		at := g.swaps(root, from, to)
		for _, place := range from {
			n, _ := g.At(place)
			put := slices.ContainsFunc(to, func(other int) bool { return g.has(other)[place] })
			if n.Op != api.OpReg || put {
				continue
			}
			if slices.Contains(g.Term(at), n) || Hangs(g.Arena, at, place) {
				t.Fatal(place, from, to, g.Term(root), g.Term(at))
			}
			if g.has(root)[place] {
				gone++
			}
		}
	}
	if gone < 300 {
		t.Error(gone)
	}
}

// P9.2: Hangs of each two places, and of such as aren't there.
func TestHangs(t *testing.T) {
	d := draw(102)
	for range 60 {
		g := grown(t, &d, 30+d.below(40))
		was, asked := g.nodes(), g.Asked()
		for root := range g.Len() {
			in := g.has(root)
			for on := range g.Len() {
				if Hangs(g.Arena, root, on) != in[on] {
					t.Fatal(was, root, on, in[on])
				}
			}
			for _, no := range []int{-1, g.Len(), g.Len() + 1, math.MinInt, math.MaxInt} {
				if Hangs(g.Arena, root, no) || Hangs(g.Arena, no, root) || Hangs(g.Arena, no, no) {
					t.Fatal(root, no)
				}
			}
		}
		g.unchanged(was, asked)
	}
	a := term.New()
	for _, no := range []int{0, 1, -1} {
		if Hangs(a, no, no) || Hangs(a, 0, no) {
			t.Error("no nodes", no)
		}
	}
}

// P9.2: what isn't a kid plays no part: place 0, which nodes name that have fewer kids, and the numbers of leaves.
func TestHangsOnKidsAlone(t *testing.T) {
	g := newGround(t)
	zero := g.made(reg(7))
	one, two := g.made(reg(1)), g.made(reg(2))
	leaf, not, sum := g.made(konst(64, 1)), g.makes(api.OpNot, 64, one), g.makes(api.OpAdd, 64, one, two)
	for _, root := range []int{one, two, leaf, not, sum} {
		if Hangs(g.Arena, root, zero) || !Hangs(g.Arena, root, root) {
			t.Error(root)
		}
	}
	for _, root := range []int{leaf, two} {
		if Hangs(g.Arena, root, one) {
			t.Error(root)
		}
	}
	if !Hangs(g.Arena, sum, two) || Hangs(g.Arena, not, two) || Hangs(g.Arena, one, sum) {
		t.Error("hangs")
	}
	g.stays(sum, []int{zero}, []int{one})
	g.stays(not, []int{zero}, []int{two})
	g.stays(leaf, []int{zero, one}, []int{two, two})
}

// faultOf is the error that the chapter's words tell, but ErrFull, written a second time.
func (g ground) faultOf(root int, from, to []int) api.Errno {
	there := func(place int) bool { return place >= 0 && place < g.Len() }
	if !there(root) {
		return api.ErrNone
	}
	if len(from) != len(to) {
		return api.ErrKid
	}
	for i := range from {
		if !there(from[i]) || !there(to[i]) {
			return api.ErrKid
		}
		if g.width(from[i]) != g.width(to[i]) {
			return api.ErrWidth
		}
	}
	return api.OK
}

// refuses asks for a swap that is wrong, and looks that nothing changes.
func (g ground) refuses(root int, from, to []int, want api.Errno) {
	g.t.Helper()
	was, asked := g.nodes(), g.Asked()
	first, second := spare(from), spare(to)
	if at, wrong := Swap(g.Arena, root, first, second); at != 0 || wrong != want {
		g.t.Error(root, from, to, at, wrong, want)
	}
	if !slices.Equal(first, from) || !slices.Equal(second, to) {
		g.t.Error("lists changed")
	}
	g.unchanged(was, asked)
}

// P9.1: each error, where several apply the one that is named first, or of the first wrong pair; nothing changes.
func TestWrong(t *testing.T) {
	l := []api.Node{reg(0), reg(1), input(0), node(api.OpMem, 0), node(api.OpEq, 1, 0, 1), node(api.OpGet, 8, 3, 0), node(api.OpWide, 64, 5), node(api.OpMul, 64, 6, 1)}
	for _, x := range []struct {
		root     int
		from, to []int
		want     api.Errno
	}{
		{8, nil, nil, api.ErrNone}, {-1, nil, nil, api.ErrNone}, {math.MaxInt, []int{0}, []int{1}, api.ErrNone}, {math.MinInt, []int{0}, []int{1}, api.ErrNone},
		{8, []int{0}, nil, api.ErrNone}, {8, []int{9}, []int{0}, api.ErrNone}, {-1, []int{0}, []int{2}, api.ErrNone}, {8, []int{8}, []int{8}, api.ErrNone},
		{7, []int{0}, nil, api.ErrKid}, {7, nil, []int{0}, api.ErrKid}, {7, []int{0, 1}, []int{1}, api.ErrKid}, {7, []int{0}, []int{2, 0}, api.ErrKid}, {7, []int{0, 2}, []int{3}, api.ErrKid}, {2, []int{0}, []int{}, api.ErrKid},
		{7, []int{8}, []int{0}, api.ErrKid}, {7, []int{0}, []int{8}, api.ErrKid}, {7, []int{-1}, []int{0}, api.ErrKid}, {7, []int{0}, []int{-1}, api.ErrKid}, {7, []int{8}, []int{8}, api.ErrKid}, {7, []int{-1}, []int{-1}, api.ErrKid},
		{7, []int{math.MaxInt}, []int{0}, api.ErrKid}, {7, []int{0}, []int{math.MinInt}, api.ErrKid}, {2, []int{8}, []int{3}, api.ErrKid}, {7, []int{3}, []int{-1}, api.ErrKid},
		{7, []int{0}, []int{2}, api.ErrWidth}, {7, []int{2}, []int{0}, api.ErrWidth}, {7, []int{2}, []int{4}, api.ErrWidth}, {7, []int{4}, []int{5}, api.ErrWidth}, {7, []int{3}, []int{0}, api.ErrWidth}, {7, []int{6}, []int{3}, api.ErrWidth}, {7, []int{7}, []int{5}, api.ErrWidth},
		// Nodes on which the root doesn't hang are wrong too.
		{2, []int{0}, []int{3}, api.ErrWidth}, {0, []int{4}, []int{6}, api.ErrWidth},
		// Pair by pair, also where a pair doesn't count.
		{7, []int{0, 8}, []int{1, 1}, api.ErrKid}, {7, []int{0, 8}, []int{2, 1}, api.ErrWidth}, {7, []int{8, 0}, []int{1, 2}, api.ErrKid}, {7, []int{0, 0, 1}, []int{1, 3, 8}, api.ErrWidth}, {7, []int{0, 0, 1}, []int{1, 8, 3}, api.ErrKid},
		{7, []int{0, 0}, []int{0, 2}, api.ErrWidth}, {7, []int{0, 0}, []int{1, -1}, api.ErrKid}, {7, []int{7, 0}, []int{7, 8}, api.ErrKid}, {7, []int{0, 0, 0, 2}, []int{1, 1, 1, 1}, api.ErrWidth}, {7, []int{0, 1, 0}, []int{0, 1, 4}, api.ErrWidth},
	} {
		g := newGround(t)
		if _, wrong := g.Put(l); wrong != api.OK {
			t.Fatal(wrong)
		}
		g.refuses(x.root, x.from, x.to, x.want)
	}
	newGround(t).refuses(0, nil, nil, api.ErrNone)
}

// P9.1: any places, right and wrong, held against the chapter's words.
func TestAnyPlaces(t *testing.T) {
	d := draw(103)
	told := map[api.Errno]int{}
	for range 200 {
		g := grown(t, &d, 25)
		place := func() int {
			if d.below(12) == 0 {
				return d.among(-1, g.Len(), math.MinInt, math.MaxInt)
			}
			return d.below(g.Len())
		}
		for range 20 {
			root := place()
			var from, to []int
			for range d.below(5) {
				x := place()
				y := place()
				if g.faultOf(x, nil, nil) == api.OK && d.below(3) > 0 {
					y, _ = g.like(&d, x, func(int) bool { return true })
				}
				from, to = append(from, x), append(to, y)
			}
			if d.below(12) == 0 {
				to = append(to, place())
			}
			want := g.faultOf(root, from, to)
			told[want]++
			if want == api.OK {
				g.again().swaps(root, from, to)
			} else {
				g.refuses(root, from, to, want)
			}
		}
	}
	for _, wrong := range []api.Errno{api.OK, api.ErrNone, api.ErrKid, api.ErrWidth} {
		if told[wrong] < 100 {
			t.Error(wrong, told)
		}
	}
}

// P9.1: in an arena without room what needs a node more is ErrFull; what doesn't is answered; what is wrong has its own error.
func TestWithoutRoom(t *testing.T) {
	g := newGround(t)
	r0, r1, r2, zero, in := g.made(reg(0)), g.made(reg(1)), g.made(reg(2)), g.made(konst(64, 0)), g.made(input(0))
	sum := g.makes(api.OpAdd, 64, r0, r1)
	root := g.makes(api.OpMul, 64, sum, r0)
	other := g.makes(api.OpMul, 64, sum, r2)
	known := g.swaps(root, []int{r1}, []int{r2})
	g.filled(0)
	for _, x := range []struct {
		root, at int
		from, to []int
	}{
		{root, root, nil, nil}, {root, root, []int{r2}, []int{r1}}, {root, root, []int{r0, sum}, []int{r0, sum}}, {root, zero, []int{root}, []int{zero}}, {root, known, []int{r1}, []int{r2}}, {r0, other, []int{r0}, []int{other}},
		{sum, sum, []int{root}, []int{sum}},
	} {
		was := g.nodes()
		if at := g.swaps(x.root, x.from, x.to); at != x.at || g.Len() != len(was) {
			t.Error(x, at)
		}
	}
	g.refuses(root, []int{r0}, []int{r2}, api.ErrFull)
	g.refuses(root, []int{sum}, []int{r1}, api.ErrFull)
	g.refuses(sum, []int{r1}, []int{root}, api.ErrFull)
	g.refuses(sum, []int{r1, r1}, []int{r0, r2}, api.ErrFull)
	g.refuses(65536, []int{r0}, []int{r2}, api.ErrNone)
	g.refuses(root, []int{r0}, []int{65536}, api.ErrKid)
	g.refuses(root, []int{r0, r1}, []int{r2}, api.ErrKid)
	g.refuses(root, []int{r0, r1}, []int{r2, in}, api.ErrWidth)
	if !Hangs(g.Arena, root, r1) || Hangs(g.Arena, 65535, r1) || !Hangs(g.Arena, 65535, 65535) || Hangs(g.Arena, 65536, 65536) {
		t.Error("hangs")
	}
}

// P9.1, rule 1: where there is room for some nodes, but not for all, nothing is made; where there is just so much, all are.
func TestRoomForSome(t *testing.T) {
	for need := 1; need <= 4; need++ {
		for room := range 6 {
			g := newGround(t)
			r0, r1, r2 := g.made(reg(0)), g.made(reg(1)), g.made(reg(2))
			root := r0
			for range need {
				root = g.makes(api.OpSub, 64, root, r1)
			}
			// Many nodes of the term stay as they are: there is room, though there wouldn't be for all of them once more.
			rest := r1
			for range 9 {
				rest = g.makes(api.OpNot, 64, g.makes(api.OpMul, 64, rest, r1))
			}
			root = g.makes(api.OpAdd, 64, rest, root)
			want := g.plain(root, []int{r0}, []int{r2})
			g.filled(room)
			if room < need+1 {
				g.refuses(root, []int{r0}, []int{r2}, api.ErrFull)
				continue
			}
			at := g.swaps(root, []int{r0}, []int{r2})
			if g.Len() != 65536-room+need+1 {
				t.Error(need, room, g.Len())
			}
			sameValue(t, want, g.Term(at), api.Env{Regs: [8]uint64{7, 8, 9}})
		}
	}
}

// chain is r0, from which r1 is taken so often, a node for each time; and r2.
func chain(t *testing.T, length int) (g ground, root int) {
	g = newGround(t)
	root = g.made(reg(0))
	r1 := g.made(reg(1))
	g.made(reg(2))
	for range length {
		root = g.makes(api.OpSub, 64, root, r1)
	}
	return g, root
}

// P9.1, rule 5: terms as deep as they may be; the longest one that has room, and one node more.
func TestDeepTerms(t *testing.T) {
	g, root := chain(t, 32766)
	e := api.Env{Regs: [8]uint64{5, 6, 7}}
	at := g.swaps(root, []int{1}, []int{2})
	// Less than 0, as 64 bits tell it.
	want := math.MaxUint64 - uint64(7*32766-5-1)
	if v, wrong := value.Of(g.Term(at), e); v != want || wrong != api.OK || g.Len() != 65535 {
		t.Error(v, wrong, g.Len())
	}
	if !Hangs(g.Arena, at, 0) || Hangs(g.Arena, at, 1) || !Hangs(g.Arena, at, 2) || Hangs(g.Arena, at, root) || !Hangs(g.Arena, root, 1) {
		t.Error("hangs")
	}
	g, root = chain(t, 32767)
	g.refuses(root, []int{1}, []int{2}, api.ErrFull)
	g, root = chain(t, 65533)
	if !Hangs(g.Arena, root, 0) || Hangs(g.Arena, root, 2) || g.Len() != 65536 {
		t.Error("hangs", g.Len())
	}
	g.stays(root, []int{2}, []int{1})
	g.stays(root, []int{0}, []int{0})
	g.refuses(root, []int{0}, []int{2}, api.ErrFull)
	if at := g.swaps(root, []int{root, 0}, []int{2, 1}); at != 2 {
		t.Error(at)
	}
}

// P9.1: nodes that share kids are swapped once each, however many ways lead to them.
func TestSharedKids(t *testing.T) {
	g := newGround(t)
	r0, r1 := g.made(reg(0)), g.made(reg(1))
	root := r0
	for range 200 {
		root = g.makes(api.OpAdd, 64, g.makes(api.OpMul, 64, root, root), root)
	}
	size, asked := g.Len(), g.Asked()
	at := g.swaps(root, []int{r0}, []int{r1})
	if g.Len() != size+400 || g.Asked() > asked+400 {
		t.Error(g.Len()-size, g.Asked()-asked)
	}
	d := draw(104)
	for range 20 {
		e := d.env()
		turned := e
		turned.Regs[0] = e.Regs[1]
		v, _ := value.Of(g.Term(root), turned)
		if x, wrong := value.Of(g.Term(at), e); x != v || wrong != api.OK {
			t.Error(x, v, wrong)
		}
	}
	if Hangs(g.Arena, at, r0) || !Hangs(g.Arena, at, r1) || Hangs(g.Arena, root, r1) {
		t.Error("hangs")
	}
}

// P9.1: lists may be long, and say the same again and again.
func TestLongLists(t *testing.T) {
	g := newGround(t)
	r0, r1, r2 := g.made(reg(0)), g.made(reg(1)), g.made(reg(2))
	root := g.makes(api.OpSub, 64, r0, r1)
	want := g.makes(api.OpSub, 64, r2, r1)
	for _, x := range []struct{ from, to []int }{
		{slices.Repeat([]int{r0}, 300000), slices.Repeat([]int{r2}, 300000)},
		{append(slices.Repeat([]int{r2}, 300000), r0), append(slices.Repeat([]int{r1}, 300000), r2)},
		{slices.Repeat([]int{r0, r2}, 150000), append([]int{r2, r1}, slices.Repeat([]int{r1, r0}, 149999)...)},
	} {
		if at := g.swaps(root, x.from, x.to); at != want {
			t.Error(at, want)
		}
	}
	g.refuses(root, slices.Repeat([]int{r0}, 300000), append(slices.Repeat([]int{r2}, 299999), -1), api.ErrKid)
}

// P9.1: what is made is made smaller by layer 8: constants put in leave a constant, and the same node twice goes as it does there.
func TestSwappedTermsAreTidied(t *testing.T) {
	g := newGround(t)
	r0, r1, five, seven := g.made(reg(0)), g.made(reg(1)), g.made(konst(64, 5)), g.made(konst(64, 7))
	root := g.makes(api.OpMul, 64, g.makes(api.OpAdd, 64, r0, five), g.makes(api.OpSub, 64, r1, r0))
	if n, _ := g.At(g.swaps(root, []int{r0, r1}, []int{five, seven})); n != konst(64, 20) {
		t.Error(n)
	}
	if n, _ := g.At(g.swaps(root, []int{r0, r1}, []int{five, five})); n != konst(64, 0) {
		t.Error(n)
	}
	same := g.makes(api.OpEq, 1, r0, r1)
	if n, _ := g.At(g.swaps(same, []int{r0}, []int{r1})); n != konst(1, 1) {
		t.Error(n)
	}
}
