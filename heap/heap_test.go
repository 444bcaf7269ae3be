package heap

import (
	"math"
	"slices"
	"testing"

	"backreach/api"
	"backreach/term"
	"backreach/value"
)

// draw is a row of numbers that is the same each time.
type draw uint64

func (d *draw) next() uint64 {
	*d = *d*6364136223846793005 + 1442695040888963407
	x := uint64(*d)
	return (x ^ x>>33) * 0xff51afd7ed558ccd
}

func (d *draw) below(n int) int {
	return int(d.next() >> 11 % uint64(n))
}

func (d *draw) among(x ...int) int {
	return x[d.below(len(x))]
}

// some is a number of 64 bits, mostly one near 0 on either side, so that places often are the same, and numbers of several bytes often go over the end.
func (d *draw) some() uint64 {
	if d.below(8) == 0 {
		return d.next()
	}
	return []uint64{0, 0, 0, 4, 8, math.MaxUint64 - 3, math.MaxUint64 - 8, 1 << 63}[d.below(8)] + uint64(d.below(5))
}

func (d *draw) bytes(n int) []byte {
	b := make([]byte, n)
	for i := range b {
		b[i] = byte(d.next() >> 40)
		if d.below(2) == 0 {
			b[i] = byte(d.below(9))
		}
	}
	return b
}

func (d *draw) env() api.Env {
	e := api.Env{Input: d.bytes(d.among(0, 1, 3, 16)), Mem: d.bytes(d.among(0, 1, 5, 12, 64))}
	for i := range e.Regs {
		e.Regs[i] = d.some()
	}
	return e
}

func konst(w int, n uint64) api.Node {
	return api.Node{Op: api.OpConst, W: w, N: n}
}

func input(n uint64) api.Node {
	return api.Node{Op: api.OpInput, W: 8, N: n}
}

func reg(n uint64) api.Node {
	return api.Node{Op: api.OpReg, W: 64, N: n}
}

func node(op, w int, kids ...int) api.Node {
	n := api.Node{Op: op, W: w}
	copy(n.K[:], kids)
	return n
}

// kidsOf is the kids that a node has, by its operation, written a second time.
func kidsOf(n api.Node) []int {
	switch {
	case n.Op <= api.OpBlank:
		return nil
	case n.Op == api.OpNot, n.Op == api.OpWide, n.Op == api.OpLow:
		return slices.Clone(n.K[:1])
	case n.Op == api.OpIf, n.Op == api.OpPut:
		return slices.Clone(n.K[:])
	}
	return slices.Clone(n.K[:2])
}

// ground is an arena in which nodes are made as they are.
type ground struct {
	t *testing.T
	*term.Arena
}

func newGround(t *testing.T) ground {
	return ground{t, term.New()}
}

func (g ground) made(n api.Node) int {
	g.t.Helper()
	at, wrong := g.Make(n)
	if wrong != api.OK {
		g.t.Fatal(n, wrong)
	}
	return at
}

func (g ground) makes(op, w int, kids ...int) int {
	g.t.Helper()
	return g.made(node(op, w, kids...))
}

// sum is a number, and so much more.
func (g ground) sum(place int, more uint64) int {
	g.t.Helper()
	return g.makes(api.OpAdd, 64, place, g.made(konst(64, more)))
}

// nodes is all that stand there.
func (g ground) nodes() []api.Node {
	var l []api.Node
	for i := range g.Len() {
		n, _ := g.At(i)
		l = append(l, n)
	}
	return l
}

// again is a ground with the same nodes.
func (g ground) again() ground {
	h := newGround(g.t)
	for _, n := range g.nodes() {
		h.made(n)
	}
	return h
}

// filled makes constants till there is room for so many nodes more alone.
func (g ground) filled(room int) {
	for i := uint64(1 << 40); g.Len() < 65536-room; i++ {
		g.made(konst(64, i))
	}
}

// unchanged holds what is there, and how often it was asked, against what was.
func (g ground) unchanged(was []api.Node, asked int) {
	g.t.Helper()
	if !slices.Equal(g.nodes(), was) || g.Asked() != asked {
		g.t.Fatal("changed", len(was), g.Len(), asked, g.Asked())
	}
}

func (g ground) width(place int) int {
	n, _ := g.At(place)
	return n.W
}

// has is the places of the nodes that some nodes' terms have, written a second time.
func (g ground) has(places ...int) map[int]bool {
	found, waiting := map[int]bool{}, slices.Clone(places)
	for len(waiting) > 0 {
		at := waiting[0]
		waiting = waiting[1:]
		if !found[at] {
			found[at] = true
			n, _ := g.At(at)
			waiting = append(waiting, kidsOf(n)...)
		}
	}
	return found
}

// of is a node's value in an environment, by layer 7.
func (g ground) of(place int, e api.Env) uint64 {
	g.t.Helper()
	v, wrong := value.Of(g.Term(place), e)
	if wrong != api.OK {
		g.t.Fatal(place, wrong)
	}
	return v
}

// byteOf is an array's byte in an environment, by layer 7.
func (g ground) byteOf(arr int, e api.Env, at uint64) byte {
	g.t.Helper()
	b, wrong := value.Byte(g.Term(arr), e, at)
	if wrong != api.OK {
		g.t.Fatal(arr, wrong)
	}
	return b
}

// number is the number of so many bytes at a place of an array in an environment: the chapter's words written a second time.
func (g ground) number(arr int, e api.Env, at uint64, bytes int) uint64 {
	g.t.Helper()
	all := uint64(0)
	for i := bytes - 1; i >= 0; i-- {
		all = all*256 + uint64(g.byteOf(arr, e, at+uint64(i)))
	}
	return all
}

// wasPut tells whether a byte was put into an array at a number in an environment.
func (g ground) wasPut(arr int, e api.Env, at uint64) bool {
	for n, _ := g.At(arr); n.Op == api.OpPut; n, _ = g.At(n.K[0]) {
		if g.of(n.K[1], e) == at {
			return true
		}
	}
	return false
}

// answers looks that there is what is answered, of a width, and that no node went or moved.
func (g ground) answers(was []api.Node, at int, wrong api.Errno, width int) int {
	g.t.Helper()
	n, there := g.At(at)
	if wrong != api.OK || !there || n.W != width || !slices.Equal(g.nodes()[:len(was)], was) {
		g.t.Fatal(was, at, wrong, there, n, width)
	}
	return at
}

func (g ground) gets(arr, at int) int {
	g.t.Helper()
	was := g.nodes()
	got, wrong := Get(g.Arena, arr, at)
	return g.answers(was, got, wrong, 8)
}

func (g ground) loads(arr, at, bytes int) int {
	g.t.Helper()
	was := g.nodes()
	got, wrong := Load(g.Arena, arr, at, bytes)
	return g.answers(was, got, wrong, 64)
}

func (g ground) saves(arr, at, bytes, x int) int {
	g.t.Helper()
	was := g.nodes()
	got, wrong := Save(g.Arena, arr, at, bytes, x)
	return g.answers(was, got, wrong, 0)
}

func (g ground) flats(root int) int {
	g.t.Helper()
	was := g.nodes()
	got, wrong := Flat(g.Arena, root)
	return g.answers(was, got, wrong, g.width(root))
}

// isFlat tells whether a node is, by the chapter's words.
func (g ground) isFlat(place int) bool {
	for at := range g.has(place) {
		n, _ := g.At(at)
		if n.Op == api.OpBlank || n.Op == api.OpPut || g.getsOther(at) {
			return false
		}
	}
	return true
}

// getsOther tells whether a node is an OpGet of something else than the memory.
func (g ground) getsOther(place int) bool {
	n, _ := g.At(place)
	array, _ := g.At(n.K[0])
	return n.Op == api.OpGet && array.Op != api.OpMem
}

// noOtherGets looks that a node's term has OpGet of no OpPut or OpBlank but where the others' own terms have.
func (g ground) noOtherGets(place int, others ...int) {
	g.t.Helper()
	may := g.has(others...)
	for at := range g.has(place) {
		if g.getsOther(at) && !may[at] {
			g.t.Fatal(g.Term(place), others)
		}
	}
}

// ops is how many nodes of an operation a node's term has.
func (g ground) ops(place, op int) int {
	count := 0
	for _, n := range g.Term(place) {
		if n.Op == op {
			count++
		}
	}
	return count
}

// drawn is a node behind others, that need not be right.
func drawn(d *draw, l []api.Node) api.Node {
	n := api.Node{Op: api.OpNot + d.below(17), W: d.among(1, 8, 64, 64)}
	switch d.below(10) {
	case 0, 1, 2, 3:
		n.Op, n.W = api.OpPut, 0
	case 4, 5:
		n.Op, n.W = api.OpGet, 8
	case 6:
		n.Op = api.OpIf
	case 7:
		n.Op, n.W = api.OpAdd, 64
	}
	for k := range kidsOf(n) {
		n.K[k] = max(d.below(len(l)), d.below(len(l)))
	}
	return n
}

// grown is a ground with leaves of all kinds, and behind them nodes of all kinds, made as they are, till there are so many.
func grown(t *testing.T, d *draw, size int) ground {
	g := newGround(t)
	leaves := []api.Node{reg(0), reg(1), reg(2), input(0), input(1), node(api.OpMem, 0), node(api.OpBlank, 0), konst(64, 0), konst(64, 1), konst(64, 3), konst(64, math.MaxUint64-1), konst(64, d.some()), konst(8, 77), konst(1, 1)}
	// Place 0, which nodes name that have fewer kids, is of each kind in turn.
	first := d.below(len(leaves))
	for i := range leaves {
		g.made(leaves[(first+i)%len(leaves)])
	}
	// Enough of each width to choose from.
	r0, r1, in, mem, blank := g.made(reg(0)), g.made(reg(1)), g.made(input(0)), g.makes(api.OpMem, 0), g.makes(api.OpBlank, 0)
	g.makes(api.OpBelow, 1, r0, r1)
	g.makes(api.OpPut, 0, mem, g.sum(r0, 2), in)
	g.makes(api.OpPut, 0, blank, g.makes(api.OpWide, 64, in), g.made(konst(8, 5)))
	for l := g.nodes(); len(l) < size; {
		n := drawn(d, l)
		// What isn't right isn't made, and what is there is no node more.
		if _, wrong := g.Make(n); wrong == api.OK && g.Len() > len(l) {
			l = append(l, n)
		}
	}
	return g
}

// one is a place that has a node of a width, more often a late one.
func (g ground) one(d *draw, width int) int {
	for {
		at := max(d.below(g.Len()), d.below(g.Len()))
		if g.width(at) == width {
			return at
		}
	}
}

// oneOf is a number at which an array may be asked: one at which a byte was put, or one near it, as often as any other.
func (g ground) oneOf(d *draw, arr int) int {
	var numbers []int
	for n, _ := g.At(arr); n.Op == api.OpPut; n, _ = g.At(n.K[0]) {
		numbers = append(numbers, n.K[1])
	}
	if len(numbers) == 0 || d.below(4) == 0 {
		return g.one(d, 64)
	}
	at := numbers[d.below(len(numbers))]
	if d.below(2) == 0 {
		return at
	}
	return g.sum(at, uint64(d.below(9)-7))
}

// arrays is arrays of each kind, and numbers at which they are asked: memory, blank, with one and several bytes put; constants, registers, input bytes, sums.
func arrays(g ground) (arrs, numbers []int) {
	r0, r1, in0, in1 := g.made(reg(0)), g.made(reg(1)), g.made(input(0)), g.made(input(1))
	wide := g.makes(api.OpWide, 64, in0)
	five, last := g.made(konst(64, 5)), g.made(konst(64, math.MaxUint64))
	numbers = []int{r0, r1, wide, five, last, g.made(konst(64, 0)), g.sum(r0, 1), g.sum(r0, math.MaxUint64), g.sum(g.sum(r0, 3), 2), g.makes(api.OpAdd, 64, five, r0), g.makes(api.OpSub, 64, r0, five), g.makes(api.OpAdd, 64, r0, r1), g.makes(api.OpSub, 64, r0, wide), g.makes(api.OpAdd, 64, five, last), g.sum(wide, 5)}
	nine := g.made(konst(8, 9))
	for _, base := range []int{g.makes(api.OpMem, 0), g.makes(api.OpBlank, 0)} {
		one := g.makes(api.OpPut, 0, base, five, in1)
		two := g.makes(api.OpPut, 0, g.makes(api.OpPut, 0, one, r0, nine), r1, in0)
		arrs = append(arrs, base, one, two, g.makes(api.OpPut, 0, base, wide, in0))
		many := two
		for i, number := range numbers {
			many = g.makes(api.OpPut, 0, many, number, g.made(konst(8, uint64(100+i))))
		}
		// The same again, other bytes, and what was got is put.
		again := g.makes(api.OpPut, 0, g.makes(api.OpPut, 0, many, r0, g.makes(api.OpGet, 8, two, r1)), five, nine)
		arrs = append(arrs, many, again)
	}
	return arrs, numbers
}

// P10.2: the chapter's example, and what it comes to.
func TestExample(t *testing.T) {
	d := draw(1)
	g := newGround(t)
	r0, r1, mem, five := g.made(reg(0)), g.made(reg(1)), g.makes(api.OpMem, 0), g.made(konst(64, 5))
	got := g.loads(g.saves(mem, five, 1, r0), r1, 1)
	for i := range 60 {
		e := d.env()
		e.Mem = d.bytes(16)
		if i%2 == 0 {
			e.Regs[1] = 5
		}
		want := uint64(byte(e.Regs[0]))
		if e.Regs[1] != 5 {
			want = g.number(mem, e, e.Regs[1], 1)
		}
		if v := g.of(got, e); v != want {
			t.Error(e, v, want)
		}
	}
	g.noOtherGets(got)
}

// P10.2: Get of each kind of array, at each kind of number.
func TestGetOfEachKind(t *testing.T) {
	d := draw(2)
	g := newGround(t)
	arrs, numbers := arrays(g)
	for _, arr := range arrs {
		for _, at := range numbers {
			got := g.gets(arr, at)
			g.noOtherGets(got, arr, at)
			for range 25 {
				e := d.env()
				if v, want := g.of(got, e), g.byteOf(arr, e, g.of(at, e)); v != uint64(want) {
					t.Fatal(g.Term(arr), g.Term(at), e, v, want)
				}
			}
		}
	}
}

// P10.2: Load and Save of each kind of array, at each kind of number, of so many bytes as there may be.
func TestLoadAndSaveOfEachKind(t *testing.T) {
	d := draw(3)
	g := newGround(t)
	arrs, numbers := arrays(g)
	xs := []int{g.made(reg(3)), g.made(konst(64, 0x1122334455667788)), g.made(konst(64, 0)), g.makes(api.OpWide, 64, g.made(input(2))), g.makes(api.OpMul, 64, g.made(reg(0)), g.made(reg(1)))}
	for i, arr := range arrs {
		// A copy for each array, so that it stays small.
		g := g.again()
		for j, at := range numbers {
			for k, bytes := range []int{1, 2, 4, 8} {
				loaded, x := g.loads(arr, at, bytes), xs[(i+j+k)%len(xs)]
				saved := g.saves(arr, at, bytes, x)
				g.noOtherGets(loaded, arr, at)
				for range 5 {
					e := d.env()
					if v, want := g.of(loaded, e), g.number(arr, e, g.of(at, e), bytes); v != want {
						t.Fatal(g.Term(arr), g.Term(at), bytes, e, v, want)
					}
					g.holdsSaved(saved, arr, at, bytes, x, e)
				}
			}
		}
	}
}

// holdsSaved holds each byte of what was saved, and those near it and elsewhere, against the chapter's words.
func (g ground) holdsSaved(saved, arr, at, bytes, x int, e api.Env) {
	g.t.Helper()
	from, number := g.of(at, e), g.of(x, e)
	asked := []uint64{from - 1, from - 2, from + uint64(bytes), from + uint64(bytes) + 1, from + 256, from + 1<<32, from + 1<<63, 0, 5, 64, math.MaxUint64, e.Regs[0], e.Regs[1]}
	for i := range uint64(bytes) {
		asked = append(asked, from+i)
	}
	l, before := g.Term(saved), g.Term(arr)
	for _, n := range asked {
		want, _ := value.Byte(before, e, n)
		// Numbers are counted from where it begins, so that those over the end count too.
		if i := n - from; i < uint64(bytes) {
			want = byte(number >> (8 * i))
		}
		if b, wrong := value.Byte(l, e, n); b != want || wrong != api.OK {
			g.t.Fatal(before, g.Term(at), bytes, e, n, b, want)
		}
	}
}

// P10.2: Get, Load, Save and Flat of any arrays and numbers, held against layer 7 in many environments.
func TestAnyTerms(t *testing.T) {
	d := draw(4)
	put, plain, flattened := 0, 0, 0
	for range 400 {
		g := grown(t, &d, 40+d.below(60))
		arr, bytes, x := g.one(&d, 0), d.among(1, 2, 4, 8), g.one(&d, 64)
		at, root := g.oneOf(&d, arr), g.one(&d, d.among(1, 8, 64))
		got, loaded, saved, flat := g.gets(arr, at), g.loads(arr, at, bytes), g.saves(arr, at, bytes, x), g.flats(root)
		g.noOtherGets(got, arr, at)
		if !g.isFlat(root) {
			flattened++
		}
		if !g.isFlat(flat) {
			t.Fatal(g.Term(root), g.Term(flat))
		}
		for range 12 {
			e := d.env()
			from := g.of(at, e)
			if v, want := g.of(got, e), g.byteOf(arr, e, from); v != uint64(want) {
				t.Fatal(g.Term(arr), g.Term(at), e, v, want)
			}
			if v, want := g.of(loaded, e), g.number(arr, e, from, bytes); v != want {
				t.Fatal(g.Term(arr), g.Term(at), bytes, e, v, want)
			}
			if v, want := g.of(flat, e), g.of(root, e); v != want {
				t.Fatal(g.Term(root), g.Term(flat), e, v, want)
			}
			g.holdsSaved(saved, arr, at, bytes, x, e)
			if g.wasPut(arr, e, from) {
				put++
			} else {
				plain++
			}
		}
	}
	if put < 1000 || plain < 1000 || flattened < 100 {
		t.Error(put, plain, flattened)
	}
}

// P10.2: in an arena that grows with all that was made ahead, which plays no part; asked again, it is where it was, without a node more.
func TestManyInOneArena(t *testing.T) {
	d := draw(5)
	for range 10 {
		g := grown(t, &d, 60)
		for range 25 {
			arr, at, bytes, x := g.one(&d, 0), g.one(&d, 64), d.among(1, 2, 4, 8), g.one(&d, 64)
			root := g.one(&d, d.among(1, 8, 64))
			if len(g.Term(root)) > 400 || len(g.Term(arr)) > 400 {
				continue
			}
			h := g.again()
			do := func(g ground) [4]int {
				return [4]int{g.gets(arr, at), g.loads(arr, at, bytes), g.saves(arr, at, bytes, x), g.flats(root)}
			}
			made := do(g)
			if also := do(h); also != made || !slices.Equal(h.nodes(), g.nodes()) {
				t.Fatal("another arena, another answer", made, also)
			}
			size := g.Len()
			if also := do(g); also != made || g.Len() != size {
				t.Fatal("again, another answer", made, also)
			}
			e := d.env()
			if !g.isFlat(made[3]) || g.of(made[3], e) != g.of(root, e) || g.of(made[1], e) != g.number(arr, e, g.of(at, e), bytes) {
				t.Fatal(g.Term(root), g.Term(arr), g.Term(at), e)
			}
		}
	}
}

// P10.2: numbers of several bytes near the highest place go on at 0, whatever tells the place.
func TestPlacesGoOnAtZero(t *testing.T) {
	g := newGround(t)
	mem, r0, r1 := g.makes(api.OpMem, 0), g.made(reg(0)), g.made(reg(1))
	e := api.Env{Mem: []byte{1, 2, 3, 4, 5, 6, 7, 8, 9}}
	e.Regs[1] = 0x8877665544332211
	wide := g.made(konst(64, 0x0807060504030201))
	for back := uint64(1); back <= 9; back++ {
		e.Regs[0] = -back
		at := g.made(konst(64, -back))
		for i, place := range []int{r0, at, g.sum(r0, 0), g.sum(g.sum(at, 3), math.MaxUint64-2), g.makes(api.OpSub, 64, g.sum(r0, 7), g.made(konst(64, 7)))} {
			for _, bytes := range []int{1, 2, 4, 8} {
				want := uint64(0)
				if uint64(bytes) > back {
					want = 0x0807060504030201 << (8 * back)
				}
				if bytes < 8 {
					want &= 1<<(8*bytes) - 1
				}
				if v := g.of(g.loads(mem, place, bytes), e); v != want {
					t.Errorf("%d %d %d: %x, not %x", back, i, bytes, v, want)
				}
				for _, x := range []int{r1, wide} {
					saved := g.saves(mem, place, bytes, x)
					g.holdsSaved(saved, mem, place, bytes, x, e)
				}
			}
		}
	}
}

// P10.3: what was saved is loaded, cut to its bytes, whatever the array, the place and the number are.
func TestSavedIsLoaded(t *testing.T) {
	d := draw(6)
	for range 300 {
		g := grown(t, &d, 40+d.below(40))
		arr, at, bytes, x := g.one(&d, 0), g.one(&d, 64), d.among(1, 2, 4, 8), g.one(&d, 64)
		loaded := g.loads(g.saves(arr, at, bytes, x), at, bytes)
		for range 10 {
			e := d.env()
			want := g.of(x, e)
			if bytes < 8 {
				want %= 1 << (8 * bytes)
			}
			if v := g.of(loaded, e); v != want {
				t.Fatal(g.Term(arr), g.Term(at), bytes, e, v, want)
			}
		}
	}
}

// P10.3: a number that shares no place with what was saved is loaded as it was; one that shares some has those bytes of it.
func TestLoadedBesideSaved(t *testing.T) {
	d := draw(7)
	apart, some := 0, 0
	for range 400 {
		g := grown(t, &d, 30+d.below(30))
		arr, at, x, size := g.one(&d, 0), g.one(&d, 64), g.one(&d, 64), d.among(1, 2, 4, 8)
		saved := g.saves(arr, at, size, x)
		for range 3 {
			other, bytes := g.one(&d, 64), d.among(1, 2, 4, 8)
			if d.below(2) == 0 {
				other = g.sum(at, uint64(d.below(21)-10))
			}
			loaded, before := g.loads(saved, other, bytes), g.loads(arr, other, bytes)
			for range 8 {
				e := d.env()
				from, to, number := g.of(at, e), g.of(other, e), g.of(x, e)
				want, shared := g.of(before, e), 0
				for i := range uint64(bytes) {
					if k := to + i - from; k < uint64(size) {
						shared++
						want = want&^(0xff<<(8*i)) | number>>(8*k)&0xff<<(8*i)
					}
				}
				if v := g.of(loaded, e); v != want {
					t.Fatal(g.Term(saved), g.Term(other), bytes, e, v, want)
				}
				if shared == 0 {
					apart++
				} else if shared < bytes {
					some++
				}
			}
		}
	}
	if apart < 1000 || some < 200 {
		t.Error(apart, some)
	}
}

// P10.3: a Save and a Load at all distances, at constants and at a register.
func TestEveryDistance(t *testing.T) {
	g := newGround(t)
	mem, r0, x := g.makes(api.OpMem, 0), g.made(reg(0)), g.made(konst(64, 0xf8f7f6f5f4f3f2f1))
	e := api.Env{Mem: []byte{1, 2, 3, 4, 5, 6, 7, 8, 9, 10, 11, 12, 13, 14, 15, 16, 17, 18, 19, 20, 21, 22, 23, 24, 25, 26, 27, 28, 29, 30}}
	e.Regs[0] = 10
	for _, size := range []int{1, 2, 4, 8} {
		for _, bytes := range []int{1, 2, 4, 8} {
			for to := range uint64(21) {
				want := uint64(0)
				for i := range uint64(bytes) {
					b := to + i + 1
					if k := to + i - 10; k < uint64(size) {
						b = 0xf1 + k
					}
					want |= b << (8 * i)
				}
				constant := g.loads(g.saves(mem, g.made(konst(64, 10)), size, x), g.made(konst(64, to)), bytes)
				register := g.loads(g.saves(mem, r0, size, x), g.sum(r0, to-10), bytes)
				both := g.loads(g.saves(mem, r0, size, x), g.made(konst(64, to)), bytes)
				for i, place := range []int{constant, register, both} {
					if v := g.of(place, e); v != want {
						t.Errorf("%d %d %d %d: %x, not %x", i, size, bytes, to, v, want)
					}
				}
				// Places of one register tell themselves apart: there is nothing to choose.
				if g.ops(constant, api.OpIf)+g.ops(register, api.OpIf) > 0 {
					t.Error(g.Term(constant), g.Term(register))
				}
			}
		}
	}
}

// P10.2: bytes put at unlike nodes whose values are the same in some environments: the last one counts.
func TestUnlikeNodesOfOneValue(t *testing.T) {
	g := newGround(t)
	mem, r0, r1 := g.makes(api.OpMem, 0), g.made(reg(0)), g.made(reg(1))
	in := g.makes(api.OpWide, 64, g.made(input(0)))
	twice := g.makes(api.OpAdd, 64, r0, r0)
	numbers := []int{r0, r1, in, twice, g.made(konst(64, 6)), g.sum(r1, 2), g.makes(api.OpNot, 64, r0), g.makes(api.OpSub, 64, r0, r1)}
	arr := mem
	for i, number := range numbers {
		arr = g.makes(api.OpPut, 0, arr, number, g.made(konst(8, uint64(100+i))))
	}
	alike := 0
	for first := range uint64(9) {
		for second := range uint64(9) {
			for third := range byte(9) {
				e := api.Env{Input: []byte{third}, Mem: []byte{1, 2, 3, 4, 5, 6, 7, 8, 9, 10}}
				e.Regs[0], e.Regs[1] = first, second
				for i, number := range numbers {
					want := 0
					for j, other := range numbers {
						if g.of(number, e) == g.of(other, e) {
							want = j
						}
					}
					if want != i {
						alike++
					}
					if v := g.of(g.gets(arr, number), e); v != uint64(100+want) {
						t.Fatal(first, second, third, i, v, want)
					}
				}
			}
		}
	}
	if alike < 100 {
		t.Error(alike)
	}
}

// P10.2: Flat of terms that are written out, held against what is to come of them.
func TestFlatWrittenOut(t *testing.T) {
	d := draw(8)
	g := newGround(t)
	r0, r1, r2, in, mem, blank := g.made(reg(0)), g.made(reg(1)), g.made(reg(2)), g.made(input(0)), g.makes(api.OpMem, 0), g.makes(api.OpBlank, 0)
	five, one := g.made(konst(64, 5)), g.made(konst(1, 1))
	onMem := g.makes(api.OpPut, 0, g.makes(api.OpPut, 0, mem, r0, in), r1, g.made(konst(8, 9)))
	onBlank := g.makes(api.OpPut, 0, g.makes(api.OpPut, 0, blank, five, in), r0, g.makes(api.OpGet, 8, onMem, five))
	first, second := g.makes(api.OpGet, 8, onMem, r2), g.makes(api.OpGet, 8, onBlank, r2)
	choice := g.makes(api.OpIf, 8, g.makes(api.OpEq, 1, first, second), first, second)
	inner := g.makes(api.OpWide, 64, choice)
	atGot := g.makes(api.OpGet, 8, g.makes(api.OpPut, 0, onBlank, inner, first), g.makes(api.OpAdd, 64, inner, r0))
	for i, root := range []int{
		first, second, choice, inner, atGot,
		g.makes(api.OpGet, 8, blank, r0), g.makes(api.OpWide, 64, g.makes(api.OpGet, 8, blank, five)), g.makes(api.OpNot, 8, g.makes(api.OpGet, 8, blank, inner)),
		g.makes(api.OpIf, 8, one, second, first), g.makes(api.OpIf, 8, g.makes(api.OpLess, 1, inner, r1), g.makes(api.OpGet, 8, mem, inner), atGot),
		g.makes(api.OpEq, 1, g.makes(api.OpGet, 8, onMem, r1), g.makes(api.OpGet, 8, onBlank, r1)), g.makes(api.OpMul, 8, atGot, atGot),
		g.makes(api.OpGet, 8, mem, g.makes(api.OpWide, 64, g.makes(api.OpGet, 8, onBlank, five))),
	} {
		flat := g.flats(root)
		if !g.isFlat(flat) || g.isFlat(root) {
			t.Error(i, g.Term(root), g.Term(flat))
		}
		for range 60 {
			e := d.env()
			if v, want := g.of(flat, e), g.of(root, e); v != want {
				t.Fatal(i, e, v, want)
			}
		}
		// What is flat stays where it is.
		if size := g.Len(); g.flats(flat) != flat || g.Len() != size {
			t.Error(i, g.Len(), size)
		}
	}
}

// P10.2: what is flat already is answered itself, also where layer 8 would make it smaller, and without a node more.
func TestFlatAlready(t *testing.T) {
	d := draw(9)
	flat := 0
	for range 60 {
		g := grown(t, &d, 60)
		for root := range g.Len() {
			if g.width(root) == 0 || !g.isFlat(root) {
				continue
			}
			size := g.Len()
			if at := g.flats(root); at != root || g.Len() != size {
				t.Fatal(g.Term(root), root, at)
			}
			flat++
		}
	}
	if flat < 1000 {
		t.Error(flat)
	}
}

// P10.2: nodes that share kids are made flat once, however many ways lead to them.
func TestSharedKids(t *testing.T) {
	d := draw(10)
	g := newGround(t)
	r0, r1, mem, in := g.made(reg(0)), g.made(reg(1)), g.makes(api.OpMem, 0), g.made(input(0))
	b, arr := in, mem
	for range 100 {
		arr = g.makes(api.OpPut, 0, arr, r0, b)
		got := g.makes(api.OpGet, 8, arr, r1)
		b = g.makes(api.OpAdd, 8, g.makes(api.OpMul, 8, got, b), got)
	}
	size, asked := g.Len(), g.Asked()
	flat := g.flats(b)
	if !g.isFlat(flat) || g.Len() > size+400 || g.Asked() > asked+2000 {
		t.Error(g.Len()-size, g.Asked()-asked)
	}
	for range 40 {
		e := d.env()
		if d.below(2) == 0 {
			e.Regs[1] = e.Regs[0]
		}
		if v, want := g.of(flat, e), g.of(b, e); v != want {
			t.Fatal(e, v, want)
		}
	}
}

// P10.2: what handed-in terms have of OpGet of OpPut and OpBlank may stay; of what was made flat none does.
func TestGetsThatWereThere(t *testing.T) {
	d := draw(11)
	g := newGround(t)
	r0, r1, mem, blank := g.made(reg(0)), g.made(reg(1)), g.makes(api.OpMem, 0), g.makes(api.OpBlank, 0)
	put := g.makes(api.OpPut, 0, mem, r0, g.made(input(0)))
	// Nodes that are there already, but not in what is handed in, may not come into it.
	g.makes(api.OpGet, 8, put, r1)
	g.makes(api.OpGet, 8, blank, r1)
	got := g.gets(put, r1)
	g.noOtherGets(got)
	g.noOtherGets(g.gets(blank, r1))
	at := g.makes(api.OpWide, 64, g.makes(api.OpGet, 8, put, r0))
	arr := g.makes(api.OpPut, 0, blank, r1, g.makes(api.OpGet, 8, blank, r0))
	for _, x := range [][2]int{{mem, at}, {put, at}, {arr, r0}, {arr, at}, {blank, at}} {
		got := g.gets(x[0], x[1])
		g.noOtherGets(got, x[0], x[1])
		flat := g.flats(got)
		if !g.isFlat(flat) {
			t.Error(g.Term(flat))
		}
		for range 20 {
			e := d.env()
			if v, want := g.of(flat, e), g.byteOf(x[0], e, g.of(x[1], e)); v != uint64(want) {
				t.Error(x, e, v, want)
			}
		}
	}
}

// wanted is the error of each call that the chapter's words tell, but ErrFull, written a second time.
func (g ground) wanted(save bool, arr, at, bytes, x int) api.Errno {
	numbers := []int{at}
	if save {
		numbers = append(numbers, x)
	}
	for _, place := range append(numbers, arr) {
		if place < 0 || place >= g.Len() {
			return api.ErrKid
		}
	}
	for _, place := range numbers {
		if g.width(place) != 64 || g.width(arr) != 0 {
			return api.ErrWidth
		}
	}
	if bytes < 1 || bytes > 8 || bytes&(bytes-1) != 0 {
		return api.ErrRange
	}
	return api.OK
}

// refuses looks that a call is refused, and nothing changes.
func (g ground) refuses(want api.Errno, call func() (int, api.Errno)) {
	g.t.Helper()
	was, asked := g.nodes(), g.Asked()
	if at, wrong := call(); at != 0 || wrong != want {
		g.t.Fatal(at, wrong, want)
	}
	g.unchanged(was, asked)
}

func (g ground) get(arr, at int) func() (int, api.Errno) {
	return func() (int, api.Errno) { return Get(g.Arena, arr, at) }
}

func (g ground) load(arr, at, bytes int) func() (int, api.Errno) {
	return func() (int, api.Errno) { return Load(g.Arena, arr, at, bytes) }
}

func (g ground) save(arr, at, bytes, x int) func() (int, api.Errno) {
	return func() (int, api.Errno) { return Save(g.Arena, arr, at, bytes, x) }
}

func (g ground) flat(root int) func() (int, api.Errno) {
	return func() (int, api.Errno) { return Flat(g.Arena, root) }
}

// wrongGround has a register, a byte, a bit, memory, blank and an array, at the places 0 to 5.
func wrongGround(t *testing.T) ground {
	g := newGround(t)
	r0, in := g.made(reg(0)), g.made(input(0))
	g.makes(api.OpEq, 1, in, in)
	mem := g.makes(api.OpMem, 0)
	g.makes(api.OpBlank, 0)
	g.makes(api.OpPut, 0, mem, r0, in)
	return g
}

// P10.1: each error, where several apply the one that is named first; nothing changes.
func TestWrong(t *testing.T) {
	g := wrongGround(t)
	for _, x := range []struct {
		arr, at, bytes, x int
		want              api.Errno
	}{
		{6, 0, 1, 0, api.ErrKid}, {-1, 0, 1, 0, api.ErrKid}, {3, 6, 1, 0, api.ErrKid}, {3, -1, 1, 0, api.ErrKid}, {3, 0, 1, 6, api.ErrKid}, {3, 0, 1, -1, api.ErrKid},
		{math.MaxInt, 0, 1, 0, api.ErrKid}, {3, math.MinInt, 1, 0, api.ErrKid}, {3, 0, 1, math.MaxInt, api.ErrKid}, {5, 0, 8, 6, api.ErrKid},
		// A place that isn't there is told ahead of a width, and that ahead of a count.
		{0, 6, 1, 0, api.ErrKid}, {0, 0, 3, 6, api.ErrKid}, {3, 1, 3, -1, api.ErrKid}, {6, 1, 3, 1, api.ErrKid}, {1, 1, 0, 6, api.ErrKid}, {3, 6, 0, 3, api.ErrKid},
		{0, 0, 1, 0, api.ErrWidth}, {1, 0, 1, 0, api.ErrWidth}, {2, 0, 2, 0, api.ErrWidth}, {3, 1, 1, 0, api.ErrWidth}, {3, 2, 1, 0, api.ErrWidth}, {3, 3, 1, 0, api.ErrWidth}, {3, 4, 4, 0, api.ErrWidth}, {5, 5, 1, 0, api.ErrWidth},
		{3, 0, 1, 1, api.ErrWidth}, {3, 0, 8, 2, api.ErrWidth}, {3, 0, 1, 3, api.ErrWidth}, {4, 0, 1, 5, api.ErrWidth}, {5, 0, 1, 4, api.ErrWidth},
		{0, 0, 3, 0, api.ErrWidth}, {3, 1, 0, 0, api.ErrWidth}, {3, 0, -1, 1, api.ErrWidth}, {0, 1, 9, 3, api.ErrWidth}, {0, 3, 1, 0, api.ErrWidth},
		{3, 0, 0, 0, api.ErrRange}, {4, 0, 3, 0, api.ErrRange}, {5, 0, 5, 0, api.ErrRange}, {3, 0, 6, 0, api.ErrRange}, {3, 0, 7, 0, api.ErrRange}, {3, 0, 9, 0, api.ErrRange}, {3, 0, 16, 0, api.ErrRange},
		{3, 0, -1, 0, api.ErrRange}, {3, 0, -2, 0, api.ErrRange}, {3, 0, -8, 0, api.ErrRange}, {3, 0, math.MinInt, 0, api.ErrRange}, {3, 0, math.MaxInt, 0, api.ErrRange}, {3, 0, 1 << 32, 0, api.ErrRange}, {3, 0, 1<<32 + 1, 0, api.ErrRange}, {3, 0, 1<<8 + 8, 0, api.ErrRange},
	} {
		if g.wanted(true, x.arr, x.at, x.bytes, x.x) != x.want {
			t.Error(x)
		}
		g.refuses(x.want, g.save(x.arr, x.at, x.bytes, x.x))
		if want := g.wanted(false, x.arr, x.at, x.bytes, 0); want != api.OK {
			g.refuses(want, g.load(x.arr, x.at, x.bytes))
		}
		if want := g.wanted(false, x.arr, x.at, 1, 0); want != api.OK {
			g.refuses(want, g.get(x.arr, x.at))
		}
	}
	for _, place := range []int{6, -1, math.MaxInt, math.MinInt, 65536} {
		g.refuses(api.ErrKid, g.flat(place))
	}
	for _, array := range []int{3, 4, 5} {
		g.refuses(api.ErrWidth, g.flat(array))
	}
	empty := newGround(t)
	empty.refuses(api.ErrKid, empty.get(0, 0))
	empty.refuses(api.ErrKid, empty.load(0, 0, 0))
	empty.refuses(api.ErrKid, empty.save(0, 0, 0, 0))
	empty.refuses(api.ErrKid, empty.flat(0))
}

// P10.1: any places and counts, right and wrong, held against the chapter's words.
func TestAnyPlaces(t *testing.T) {
	d := draw(12)
	told := map[api.Errno]int{}
	g := wrongGround(t)
	for range 20000 {
		place := func() int { return d.among(0, 0, 0, 1, 2, 3, 3, 4, 5, 6, -1) }
		arr, at, bytes, x := d.among(0, 1, 3, 3, 4, 4, 5, 5, 6), place(), d.among(-1, 0, 1, 1, 2, 3, 4, 4, 5, 8, 8, 9), place()
		for i, call := range []func() (int, api.Errno){g.get(arr, at), g.load(arr, at, bytes), g.save(arr, at, bytes, x)} {
			want := g.wanted(i == 2, arr, at, bytes, x)
			if i == 0 {
				want = g.wanted(false, arr, at, 1, 0)
			}
			told[want]++
			if want != api.OK {
				g.refuses(want, call)
				continue
			}
			// Of another arena, so that the places that aren't there stay so.
			g := g.again()
			switch i {
			case 0:
				g.gets(arr, at)
			case 1:
				g.loads(arr, at, bytes)
			case 2:
				g.saves(arr, at, bytes, x)
			}
		}
	}
	for _, wrong := range []api.Errno{api.OK, api.ErrKid, api.ErrWidth, api.ErrRange} {
		if told[wrong] < 500 {
			t.Error(wrong, told)
		}
	}
}

// P10.1: in an arena without room what needs a node more is ErrFull, and nothing changes; what doesn't is answered; what is wrong has its own error.
func TestWithoutRoom(t *testing.T) {
	g := wrongGround(t)
	r0, in, mem, blank, put := 0, 1, 3, 4, 5
	r1, five := g.made(reg(1)), g.made(konst(64, 5))
	known := g.loads(put, r1, 4)
	saved := g.saves(put, r1, 4, r0)
	got := g.makes(api.OpGet, 8, put, r1)
	byteThere := g.gets(put, r1)
	other := g.makes(api.OpNot, 8, g.makes(api.OpGet, 8, put, five))
	flat := g.makes(api.OpNot, 8, g.makes(api.OpGet, 8, mem, five))
	g.filled(0)
	for _, call := range []func() (int, api.Errno){
		g.get(put, five), g.get(mem, r0), g.get(blank, r0), g.load(mem, r0, 1), g.load(put, r1, 8), g.load(put, r0, 2), g.load(blank, r0, 8),
		g.save(mem, r0, 1, r0), g.save(put, r1, 8, r0), g.save(blank, five, 2, five), g.save(put, r1, 4, r1), g.flat(other), g.flat(g.makes(api.OpGet, 8, put, five)),
	} {
		g.refuses(api.ErrFull, call)
	}
	for i, x := range []struct {
		at   int
		call func() (int, api.Errno)
	}{
		{known, g.load(put, r1, 4)}, {saved, g.save(put, r1, 4, r0)}, {in, g.get(put, r0)}, {byteThere, g.get(put, r1)}, {byteThere, g.flat(got)}, {flat, g.flat(flat)}, {r0, g.flat(r0)}, {65535, g.flat(65535)},
	} {
		if at, wrong := x.call(); at != x.at || wrong != api.OK || g.Len() != 65536 {
			t.Error(i, at, x.at, wrong, g.Len())
		}
	}
	g.refuses(api.ErrKid, g.get(put, 65536))
	g.refuses(api.ErrWidth, g.get(put, in))
	g.refuses(api.ErrRange, g.load(put, five, 3))
	g.refuses(api.ErrRange, g.save(put, five, 3, r0))
	g.refuses(api.ErrWidth, g.save(put, five, 2, in))
	g.refuses(api.ErrWidth, g.flat(put))
	g.refuses(api.ErrKid, g.flat(65536))
}

// P10.1, rule 1: where there is room for some nodes, but not for all, nothing is made; where there is just so much, all are.
func TestRoomForSome(t *testing.T) {
	d := draw(13)
	base := newGround(t)
	r0, r1, r2, in, mem := base.made(reg(0)), base.made(reg(1)), base.made(reg(2)), base.made(input(0)), base.makes(api.OpMem, 0)
	arr := base.makes(api.OpPut, 0, base.makes(api.OpPut, 0, mem, r0, in), r1, base.made(konst(8, 9)))
	root := base.makes(api.OpMul, 8, base.makes(api.OpGet, 8, arr, r2), base.makes(api.OpGet, 8, base.makes(api.OpPut, 0, arr, r2, in), r1))
	// Far more nodes are needed here than the term has.
	many, long := root, arr
	for i := range uint64(6) {
		long = base.makes(api.OpPut, 0, long, base.sum(r0, i+1), in)
	}
	for i := range uint64(12) {
		many = base.makes(api.OpXor, 8, many, base.makes(api.OpGet, 8, long, base.sum(r2, i+1)))
	}
	for i, make := range []func(g ground) (int, api.Errno){
		func(g ground) (int, api.Errno) { return Flat(g.Arena, many) },
		func(g ground) (int, api.Errno) { return Get(g.Arena, arr, r2) },
		func(g ground) (int, api.Errno) { return Load(g.Arena, arr, r2, 4) },
		func(g ground) (int, api.Errno) { return Save(g.Arena, arr, r2, 4, r1) },
		func(g ground) (int, api.Errno) { return Flat(g.Arena, root) },
	} {
		roomy := base.again()
		want, wrong := make(roomy)
		need := roomy.Len() - base.Len()
		if wrong != api.OK || need < 3 {
			t.Fatal(i, wrong, need)
		}
		l := roomy.Term(want)
		for _, room := range []int{0, 1, 2, need / 2, need - 1, need, need + 1, 3 * need, 9 * need} {
			g := base.again()
			g.filled(room)
			if room < need {
				g.refuses(api.ErrFull, func() (int, api.Errno) { return make(g) })
				continue
			}
			at, wrong := make(g)
			if wrong != api.OK || g.Len() != 65536-room+need {
				t.Fatal(i, room, need, wrong, g.Len())
			}
			e := d.env()
			if g.width(at) != 0 && g.of(at, e) != roomy.of(want, e) || len(g.Term(at)) != len(l) {
				t.Error(i, room, l, g.Term(at))
			}
		}
	}
}

// P10.1, rule 5: as many bytes as may be put, at registers and constants, and arrays with more choices than there is room for.
func TestLongArrays(t *testing.T) {
	g := newGround(t)
	r0, in, mem := g.made(reg(0)), g.made(input(0)), g.makes(api.OpMem, 0)
	arr := mem
	for i := range 16000 {
		arr = g.makes(api.OpPut, 0, arr, g.made(konst(64, uint64(2*i))), in)
	}
	got, loaded, saved := g.gets(arr, r0), g.loads(arr, g.made(konst(64, 999)), 8), g.saves(arr, r0, 8, r0)
	e := api.Env{Input: []byte{7}, Mem: make([]byte, 64)}
	e.Mem[33] = 8
	for at, want := range map[uint64]uint64{30: 7, 31998: 7, 32000: 0, 33: 8, 1: 0} {
		e.Regs[0] = at
		if v := g.of(got, e); v != want {
			t.Error(at, v, want)
		}
	}
	g.holdsSaved(saved, arr, r0, 8, r0, e)
	if v := g.of(loaded, e); v != 0x0700070007000700 {
		t.Errorf("%x", v)
	}
	g.refuses(api.ErrFull, g.get(arr, g.made(reg(1))))
	g.refuses(api.ErrFull, g.load(arr, r0, 8))
	if _, wrong := Get(g.Arena, arr, r0); wrong != api.OK {
		t.Error(wrong)
	}
}

// P10.2, rule 5: terms as deep as they may be, of numbers, of sums, and of bytes that are got where others were.
func TestDeepTerms(t *testing.T) {
	g := newGround(t)
	r0, r1, in, mem := g.made(reg(0)), g.made(reg(1)), g.made(input(0)), g.makes(api.OpMem, 0)
	b, at := in, r0
	for range 9000 {
		b = g.makes(api.OpGet, 8, g.makes(api.OpPut, 0, mem, at, b), r1)
		at = g.makes(api.OpWide, 64, b)
	}
	e := api.Env{Input: []byte{3}, Mem: []byte{5, 4, 3, 2, 1, 0}}
	flat := g.flats(at)
	for e.Regs[1] = range uint64(7) {
		e.Regs[0] = 3
		if v, want := g.of(flat, e), g.of(at, e); v != want {
			t.Error(e.Regs, v, want)
		}
	}
	if !g.isFlat(flat) {
		t.Error("not flat")
	}

	g = newGround(t)
	root := g.makes(api.OpGet, 8, g.makes(api.OpBlank, 0), g.made(reg(0)))
	for range 32000 {
		root = g.makes(api.OpNot, 8, root)
	}
	// All is known then, and constants are few.
	if n, _ := g.At(g.flats(root)); n != konst(8, 0) || g.Len() > 32010 {
		t.Error(n, g.Len())
	}

	g = newGround(t)
	r0, one, mem := g.made(reg(0)), g.made(konst(64, 1)), g.makes(api.OpMem, 0)
	sum, arr := r0, mem
	for i := range 20000 {
		arr = g.makes(api.OpPut, 0, arr, sum, g.made(konst(8, uint64(i%256))))
		sum = g.makes(api.OpAdd, 64, one, sum)
	}
	e = api.Env{Mem: []byte{9, 8}, Regs: [8]uint64{math.MaxUint64 - 19999}}
	// The last place is 0: the two bytes of the memory, which nothing was put at, are there.
	if v := g.of(g.loads(arr, sum, 8), e); v != 0x0809 {
		t.Errorf("%x", v)
	}
	if v := g.of(g.loads(arr, g.makes(api.OpSub, 64, sum, g.made(konst(64, 4))), 8), e); v != 0x08091f1e1d1c {
		t.Errorf("%x", v)
	}
}

// P10.1, rule 5: a term that has far more to choose than there is room for is refused soon, and nothing changes.
func TestFarTooManyChoices(t *testing.T) {
	g := newGround(t)
	r0, in, mem := g.made(reg(0)), g.made(input(0)), g.makes(api.OpMem, 0)
	number, arr, root := r0, mem, in
	other := func() int {
		number = g.makes(api.OpMul, 64, g.makes(api.OpNot, 64, number), r0)
		return number
	}
	for range 10000 {
		arr = g.makes(api.OpPut, 0, arr, other(), in)
	}
	for range 7000 {
		root = g.makes(api.OpAdd, 8, root, g.makes(api.OpNot, 8, g.makes(api.OpGet, 8, arr, other())))
	}
	g.refuses(api.ErrFull, g.flat(root))
	g.refuses(api.ErrFull, g.get(arr, number))
	g.refuses(api.ErrFull, g.load(arr, r0, 8))
	if at, wrong := Flat(g.Arena, number); at != number || wrong != api.OK {
		t.Error(at, wrong)
	}
}

// P10.2: a byte that was put is found by itself, however its place is told, and constants come to one constant.
func TestKnownBytes(t *testing.T) {
	g := newGround(t)
	r0, x, blank := g.made(reg(0)), g.made(konst(64, 0x8877665544332211)), g.makes(api.OpBlank, 0)
	five := g.made(konst(64, 5))
	at := g.sum(g.sum(r0, 16), 8)
	for i, place := range []int{at, g.sum(r0, 24), g.makes(api.OpAdd, 64, g.made(konst(64, 24)), r0), g.makes(api.OpSub, 64, g.sum(r0, 29), five), g.sum(g.makes(api.OpSub, 64, r0, five), 29)} {
		if n, _ := g.At(g.loads(g.saves(blank, at, 8, x), place, 8)); n != konst(64, 0x8877665544332211) {
			t.Error(i, n)
		}
		if n, _ := g.At(g.loads(g.saves(blank, place, 4, x), at, 2)); n != konst(64, 0x2211) {
			t.Error(i, n)
		}
	}
	if n, _ := g.At(g.loads(g.saves(blank, five, 8, x), g.made(konst(64, 7)), 8)); n != konst(64, 0x887766554433) {
		t.Error(n)
	}
	if n, _ := g.At(g.loads(blank, r0, 8)); n != konst(64, 0) {
		t.Error(n)
	}
}
