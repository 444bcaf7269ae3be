package value

import (
	"fmt"
	"math"
	"math/big"
	"slices"
	"testing"

	"backreach/api"
	"backreach/term"
)

// draw is a row of numbers that is the same each time.
type draw uint64

func (d *draw) next() uint64 {
	*d = *d*6364136223846793005 + 1442695040888963407
	x := uint64(*d)
	return (x ^ x>>33) * 0xff51afd7ed558ccd
}

func (d *draw) below(n int) int {
	return int(d.next() >> 11 % uint64(n))
}

func (d *draw) among(x ...int) int {
	return x[d.below(len(x))]
}

func (d *draw) bytes(n int) []byte {
	b := make([]byte, n)
	for i := range b {
		b[i] = byte(d.next() >> 20)
	}
	return b
}

// some is a number of 64 bits, often a small one, or one near 2 to the 63 or 64.
func (d *draw) some() uint64 {
	near := []uint64{0, 0, 1 << 63, 0, 300, 1 << 32}[d.below(6)]
	if d.below(5) == 0 {
		return d.next()
	}
	return near + uint64(d.below(12)) - 4
}

func konst(w int, n uint64) api.Node {
	return api.Node{Op: api.OpConst, W: w, N: n}
}

func input(n uint64) api.Node {
	return api.Node{Op: api.OpInput, W: 8, N: n}
}

func reg(n uint64) api.Node {
	return api.Node{Op: api.OpReg, W: 64, N: n}
}

func node(op, w int, kids ...int) api.Node {
	n := api.Node{Op: op, W: w}
	copy(n.K[:], kids)
	return n
}

// list is a term under way: add tells where the node stands.
type list []api.Node

func (l *list) add(n api.Node) int {
	*l = append(*l, n)
	return len(*l) - 1
}

// put adds a byte that is put into an array at a number.
func (l *list) put(array int, at uint64, b byte) int {
	n, v := l.add(konst(64, at)), l.add(konst(8, uint64(b)))
	return l.add(node(api.OpPut, 0, array, n, v))
}

func (l *list) get(array int, at uint64) int {
	return l.add(node(api.OpGet, 8, array, l.add(konst(64, at))))
}

// kidsOf is the kids that a node has, by its operation, written a second time.
func kidsOf(n api.Node) []int {
	switch {
	case n.Op <= api.OpBlank:
		return nil
	case n.Op == api.OpNot, n.Op == api.OpWide, n.Op == api.OpLow:
		return n.K[:1]
	case n.Op == api.OpIf, n.Op == api.OpPut:
		return n.K[:]
	}
	return n.K[:2]
}

// truth is 1 or 0.
func truth(b bool) *big.Int {
	if b {
		return big.NewInt(1)
	}
	return new(big.Int)
}

// signed is a word of a width as a number that may be negative.
func signed(w int, x *big.Int) *big.Int {
	if x.Bit(w-1) == 1 {
		return new(big.Int).Sub(x, new(big.Int).Lsh(big.NewInt(1), uint(w)))
	}
	return x
}

// applied is what an operation answers of two words, by numbers without a width, which are cut at the end.
func applied(op, w int, a, b uint64) uint64 {
	x, y, z := new(big.Int).SetUint64(a), new(big.Int).SetUint64(b), new(big.Int)
	all := new(big.Int).Sub(new(big.Int).Lsh(big.NewInt(1), uint(w)), big.NewInt(1))
	far := uint(min(b, 64))
	switch op {
	case api.OpNot:
		z.Sub(all, x)
	case api.OpAdd:
		z.Add(x, y)
	case api.OpSub:
		z.Sub(x, y)
	case api.OpMul:
		z.Mul(x, y)
	case api.OpDiv:
		z.Set(all)
		if b != 0 {
			z.Quo(x, y)
		}
	case api.OpRem:
		z.Set(x)
		if b != 0 {
			z.Rem(x, y)
		}
	case api.OpAnd:
		z.And(x, y)
	case api.OpOr:
		z.Or(x, y)
	case api.OpXor:
		z.Xor(x, y)
	case api.OpShl:
		z.Lsh(x, far)
	case api.OpShr:
		z.Rsh(x, far)
	case api.OpSar:
		z.Rsh(signed(w, x), far)
	case api.OpEq:
		z = truth(x.Cmp(y) == 0)
	case api.OpLess:
		z = truth(x.Cmp(y) < 0)
	case api.OpBelow:
		z = truth(signed(w, x).Cmp(signed(w, y)) < 0)
	}
	return z.And(z, all).Uint64()
}

// plain tells values as the chapter's table does, each node anew wherever it hangs, and arrays by going down them.
type plain struct {
	l []api.Node
	e api.Env
}

func (p plain) number(place int) uint64 {
	n := p.l[place]
	var v []uint64
	for _, k := range kidsOf(n) {
		if p.l[k].W != 0 {
			v = append(v, p.number(k))
		}
	}
	switch n.Op {
	case api.OpConst:
		return n.N
	case api.OpInput:
		for i, b := range p.e.Input {
			if uint64(i) == n.N {
				return uint64(b)
			}
		}
		return 0
	case api.OpReg:
		return p.e.Regs[n.N]
	case api.OpWide:
		return v[0]
	case api.OpLow:
		return v[0] % 256
	case api.OpIf:
		return v[2-v[0]]
	case api.OpGet:
		return uint64(p.byte(n.K[0], v[0]))
	case api.OpNot:
		return applied(n.Op, p.l[n.K[0]].W, v[0], 0)
	case api.OpMem, api.OpBlank, api.OpPut:
		return 0
	}
	return applied(n.Op, p.l[n.K[0]].W, v[0], v[1])
}

func (p plain) byte(place int, at uint64) byte {
	for {
		n := p.l[place]
		if n.Op == api.OpBlank {
			return 0
		}
		if n.Op == api.OpMem {
			for i, b := range p.e.Mem {
				if uint64(i) == at {
					return b
				}
			}
			return 0
		}
		if p.number(n.K[1]) == at {
			return byte(p.number(n.K[2]))
		}
		place = n.K[0]
	}
}

// roomy is a copy of the list with spare room behind it, that isn't empty.
func roomy[T any](x []T, more ...T) []T {
	r := append(slices.Clone(x), more...)
	return r[:len(x):len(r)]
}

func whole[T any](x []T) []T {
	return slices.Clone(x[:cap(x)])
}

func wantOf(t *testing.T, l []api.Node, e api.Env, want uint64) {
	t.Helper()
	if v, wrong := Of(l, e); v != want || wrong != api.OK {
		t.Errorf("%v of %v: %d, %d, not %d", l, e, v, wrong, want)
	}
}

func wantByte(t *testing.T, l []api.Node, e api.Env, at uint64, want byte) {
	t.Helper()
	if b, wrong := Byte(l, e, at); b != want || wrong != api.OK {
		t.Errorf("%v of %v at %d: %d, %d, not %d", l, e, at, b, wrong, want)
	}
}

// numbersToAsk is numbers at which arrays are asked: near the ends of memory, and of the numbers.
func numbersToAsk(e api.Env) []uint64 {
	n := uint64(len(e.Mem))
	return []uint64{0, 1, 2, 3, n - 2, n - 1, n, n + 1, 255, 256, 257, 1 << 32, 1<<63 - 1, 1 << 63, math.MaxUint64 - 1, math.MaxUint64}
}

// asRuled holds all three calls against the chapter, for each node as a root, and whether they leave alone what they are handed.
func asRuled(t *testing.T, l []api.Node, e api.Env) {
	t.Helper()
	l, e.Input, e.Mem = roomy(l, node(77, 7, 7)), roomy(e.Input, 1, 2, 3), roomy(e.Mem, 4, 5, 6)
	nodes, in, mem, regs := whole(l), whole(e.Input), whole(e.Mem), e.Regs
	p := plain{l, e}
	all, wrong := All(l, e)
	if wrong != api.OK || len(all) != len(l) {
		t.Fatal(l, e, all, wrong)
	}
	for i, n := range l {
		want := p.number(i)
		if all[i] != want {
			t.Fatal(l, e, i, all[i], want)
		}
		v, wrong := Of(l[:i+1], e)
		if n.W != 0 {
			if v != want || wrong != api.OK {
				t.Fatal(l, e, i, v, wrong, want)
			}
		} else if v != 0 || wrong != api.ErrWidth {
			t.Fatal(l, e, i, v, wrong)
		}
		for _, at := range numbersToAsk(e) {
			b, wrong := Byte(l[:i+1], e, at)
			if n.W != 0 {
				if b != 0 || wrong != api.ErrWidth {
					t.Fatal(l, e, i, at, b, wrong)
				}
			} else if want := p.byte(i, at); b != want || wrong != api.OK {
				t.Fatal(l, e, i, at, b, wrong, want)
			}
		}
	}
	if !slices.Equal(whole(l), nodes) || !slices.Equal(whole(e.Input), in) || !slices.Equal(whole(e.Mem), mem) || e.Regs != regs {
		t.Fatal("changed", l, e)
	}
}

// grownTerm is a term of all kinds of nodes, with late kids more often than early ones.
func grownTerm(d *draw, size int) []api.Node {
	l := list{konst(1, uint64(d.below(2))), konst(8, uint64(d.below(256))), konst(64, d.some()), node(d.among(api.OpMem, api.OpBlank), 0), input(uint64(d.below(16))), reg(uint64(d.below(8)))}
	for len(l) < size {
		n := api.Node{Op: d.among(d.below(25), api.OpPut, api.OpGet, api.OpIf), W: d.among(0, 1, 8, 64)}
		switch n.Op {
		case api.OpConst:
			n.N = d.some() & (1<<n.W - 1)
		case api.OpInput:
			n.N = uint64(d.below(16))
		case api.OpReg:
			n.N = uint64(d.below(8))
		}
		for k := range kidsOf(n) {
			n.K[k] = max(d.below(len(l)), d.below(len(l)))
		}
		l.add(n)
		if e, _ := term.Check(l); e != api.OK {
			l = l[:len(l)-1]
		}
	}
	return l
}

func grownEnv(d *draw) api.Env {
	e := api.Env{Input: d.bytes(d.below(18)), Mem: d.bytes(d.among(0, 1, 3, 63, 64, 300))}
	for i := range e.Regs {
		e.Regs[i] = d.some()
	}
	return e
}

// P7.1: the chapter's example, and each node of it.
func TestExample(t *testing.T) {
	l := []api.Node{input(0), node(api.OpWide, 64, 0), konst(64, 5), node(api.OpAdd, 64, 1, 2)}
	wantOf(t, l, api.Env{Input: []byte{7}}, 12)
	wantOf(t, l, api.Env{}, 5)
	wantOf(t, l, api.Env{Input: []byte{}}, 5)
	all, wrong := All(l, api.Env{Input: []byte{7}})
	if wrong != api.OK || !slices.Equal(all, []uint64{7, 7, 5, 12}) {
		t.Error(all, wrong)
	}
}

// P7.1: every operation of words, of each width, of numbers at the edges; OpNot, the choice, OpWide and OpLow too.
func TestEveryOperation(t *testing.T) {
	asked := map[string]bool{}
	for _, w := range []int{1, 8, 64} {
		all := uint64(math.MaxUint64) >> (64 - w)
		edges := []uint64{0, 1, 2, 7, 8, 9, 63, 64, 65, 127, 128, 129, 200, 255, 1<<63 - 1, 1 << 63, 1<<63 + 1, math.MaxUint64 - 1, math.MaxUint64}
		for _, x := range edges {
			for _, y := range edges {
				if x > all || y > all {
					continue
				}
				l := list{node(api.OpBlank, 0), konst(w, x), konst(w, y)}
				for op := api.OpAdd; op <= api.OpBelow; op++ {
					n := node(op, w, 1, 2)
					if op >= api.OpEq {
						n.W = 1
					}
					wantOf(t, append(slices.Clone(l), n), api.Env{}, applied(op, w, x, y))
					asked[fmt.Sprint(op, w)] = true
				}
				// The nodes that have fewer kids name the blank array at 0, which plays no part.
				wantOf(t, append(slices.Clone(l), node(api.OpNot, w, 1)), api.Env{}, all-x)
				wantOf(t, append(slices.Clone(l), konst(1, 1), node(api.OpIf, w, 3, 1, 2)), api.Env{}, x)
				wantOf(t, append(slices.Clone(l), konst(1, 0), node(api.OpIf, w, 3, 1, 2)), api.Env{}, y)
				if w < 64 {
					wantOf(t, append(slices.Clone(l), node(api.OpWide, 64, 1)), api.Env{}, x)
				} else {
					wantOf(t, append(slices.Clone(l), node(api.OpLow, 8, 1)), api.Env{}, x%256)
				}
			}
		}
	}
	if len(asked) != 14*3 {
		t.Error(len(asked))
	}
}

// P7.1: some values that are written out, so that they don't hang on what the tests work out.
func TestWrittenOut(t *testing.T) {
	of := func(op, w int, x, y uint64) []api.Node {
		n := node(op, w, 0, 1)
		if op >= api.OpEq {
			n.W = 1
		}
		return []api.Node{konst(w, x), konst(w, y), n}
	}
	for _, x := range []struct {
		l    []api.Node
		want uint64
	}{
		{of(api.OpAdd, 8, 200, 100), 44}, {of(api.OpAdd, 64, 200, 100), 300}, {of(api.OpAdd, 1, 1, 1), 0},
		{of(api.OpSub, 8, 1, 2), 255}, {of(api.OpSub, 64, 1, 2), math.MaxUint64}, {of(api.OpSub, 8, 2, 1), 1},
		{of(api.OpMul, 8, 16, 17), 16}, {of(api.OpMul, 64, 1<<63, 2), 0},
		{of(api.OpDiv, 8, 200, 0), 255}, {of(api.OpDiv, 1, 0, 0), 1}, {of(api.OpDiv, 64, 0, 0), math.MaxUint64}, {of(api.OpDiv, 8, 200, 100), 2}, {of(api.OpDiv, 8, 100, 200), 0},
		{of(api.OpRem, 8, 200, 0), 200}, {of(api.OpRem, 8, 200, 150), 50},
		{of(api.OpAnd, 8, 12, 10), 8}, {of(api.OpOr, 8, 12, 10), 14}, {of(api.OpXor, 8, 12, 10), 6},
		{of(api.OpShl, 8, 129, 1), 2}, {of(api.OpShl, 8, 255, 8), 0}, {of(api.OpShl, 64, 1, 64), 0}, {of(api.OpShl, 64, 1, 1<<63), 0},
		{of(api.OpShr, 8, 129, 1), 64}, {of(api.OpShr, 64, math.MaxUint64, 63), 1}, {of(api.OpShr, 64, math.MaxUint64, 64), 0},
		{of(api.OpSar, 8, 200, 4), 252}, {of(api.OpSar, 8, 200, 8), 255}, {of(api.OpSar, 8, 100, 200), 0}, {of(api.OpSar, 1, 1, 1), 1}, {of(api.OpSar, 64, 200, 4), 12},
		{of(api.OpEq, 8, 7, 7), 1}, {of(api.OpEq, 8, 7, 8), 0}, {of(api.OpEq, 64, 0, 1<<63), 0},
		{of(api.OpLess, 8, 127, 128), 1}, {of(api.OpLess, 8, 128, 127), 0}, {of(api.OpLess, 8, 5, 5), 0},
		{of(api.OpBelow, 8, 127, 128), 0}, {of(api.OpBelow, 8, 128, 127), 1}, {of(api.OpBelow, 64, 127, 128), 1}, {of(api.OpBelow, 1, 1, 0), 1}, {of(api.OpBelow, 64, 1<<63, 0), 1},
		{[]api.Node{konst(8, 170), node(api.OpNot, 8, 0)}, 85}, {[]api.Node{konst(1, 0), node(api.OpNot, 1, 0)}, 1}, {[]api.Node{konst(64, 0), node(api.OpNot, 64, 0)}, math.MaxUint64},
		{[]api.Node{konst(8, 200), node(api.OpWide, 64, 0)}, 200}, {[]api.Node{konst(1, 1), node(api.OpWide, 64, 0)}, 1},
		{[]api.Node{konst(64, 0x1234), node(api.OpLow, 8, 0)}, 0x34}, {[]api.Node{konst(64, math.MaxUint64), node(api.OpLow, 8, 0)}, 255},
	} {
		wantOf(t, x.l, api.Env{}, x.want)
	}
}

// P7.1: constants of each width, up to the greatest.
func TestConstants(t *testing.T) {
	for _, n := range []api.Node{konst(1, 0), konst(1, 1), konst(8, 0), konst(8, 255), konst(64, 0), konst(64, 256), konst(64, math.MaxUint64)} {
		wantOf(t, []api.Node{n}, api.Env{Input: []byte{9}, Mem: []byte{8}, Regs: [8]uint64{7, 7, 7, 7, 7, 7, 7, 7}}, n.N)
	}
}

// P7.1: the input's bytes; 0 where it has none; an input that ends ahead of, at, and behind the byte asked for.
func TestInputs(t *testing.T) {
	bytes := []byte{200, 201, 202, 203, 204, 205, 206, 207, 208, 209, 210, 211, 212, 213, 214, 215, 216, 217}
	for n := range uint64(16) {
		l := []api.Node{input(n)}
		wantOf(t, l, api.Env{}, 0)
		wantOf(t, l, api.Env{Mem: bytes, Regs: [8]uint64{1, 1, 1, 1, 1, 1, 1, 1}}, 0)
		for size := range len(bytes) + 1 {
			want := uint64(0)
			if size > int(n) {
				want = 200 + n
			}
			wantOf(t, l, api.Env{Input: bytes[:size]}, want)
		}
	}
}

// P7.1: each register, 0 and 7 among them, whole.
func TestRegisters(t *testing.T) {
	var e api.Env
	for n := range e.Regs {
		e.Regs[n] = math.MaxUint64 - uint64(n)*0x0123456789abcdef
	}
	for n := range uint64(8) {
		wantOf(t, []api.Node{reg(n)}, e, math.MaxUint64-n*0x0123456789abcdef)
		wantOf(t, []api.Node{reg(n)}, api.Env{Input: []byte{1}, Mem: []byte{2}}, 0)
	}
}

// P7.1: memory that ends ahead of, at and behind the number asked for, and none; it is asked by Byte and by OpGet.
func TestMemory(t *testing.T) {
	asks := []uint64{0, 1, 2, 62, 63, 64, 65, 255, 256, 299, 300, 1 << 32, 1<<63 - 1, 1 << 63, math.MaxUint64 - 63, math.MaxUint64 - 1, math.MaxUint64}
	for _, size := range []int{0, 1, 2, 63, 64, 65, 300} {
		e := api.Env{Input: []byte{9, 9, 9}, Mem: make([]byte, size)}
		for i := range e.Mem {
			e.Mem[i] = byte(i*7 + 1)
		}
		for _, at := range asks {
			want := byte(0)
			if at < uint64(size) {
				want = byte(at*7 + 1)
			}
			wantByte(t, []api.Node{node(api.OpMem, 0)}, e, at, want)
			wantByte(t, []api.Node{node(api.OpBlank, 0)}, e, at, 0)
			wantOf(t, []api.Node{konst(64, at), node(api.OpMem, 0), node(api.OpGet, 8, 1, 0)}, e, uint64(want))
			wantOf(t, []api.Node{konst(64, at), node(api.OpBlank, 0), node(api.OpGet, 8, 1, 0)}, e, 0)
			e.Regs[7] = at
			wantOf(t, []api.Node{reg(7), node(api.OpMem, 0), node(api.OpGet, 8, 1, 0)}, e, uint64(want))
		}
	}
}

// P7.1: spare room behind the input and behind memory is none of their bytes.
func TestSpareRoomIsNoByte(t *testing.T) {
	room := []byte{1, 2, 3, 4, 5}
	e := api.Env{Input: room[:2], Mem: room[:3]}
	wantOf(t, []api.Node{input(1)}, e, 2)
	wantOf(t, []api.Node{input(2)}, e, 0)
	wantByte(t, []api.Node{node(api.OpMem, 0)}, e, 2, 3)
	wantByte(t, []api.Node{node(api.OpMem, 0)}, e, 3, 0)
}

// P7.1: a choice whose first kid comes to 1 and to 0, of each width, told by what is asked of the input.
func TestChoices(t *testing.T) {
	for w, want := range map[int][2]uint64{1: {1, 0}, 8: {250, 3}, 64: {1 << 63, 5}} {
		l := []api.Node{input(0), konst(8, 100), node(api.OpLess, 1, 0, 1), konst(w, want[0]), konst(w, want[1]), node(api.OpIf, w, 2, 3, 4)}
		wantOf(t, l, api.Env{Input: []byte{99}}, want[0])
		wantOf(t, l, api.Env{Input: []byte{100}}, want[1])
	}
	same := []api.Node{konst(1, 1), node(api.OpIf, 1, 0, 0, 0), node(api.OpNot, 1, 1), node(api.OpIf, 1, 2, 0, 2)}
	if all, wrong := All(same, api.Env{}); wrong != api.OK || !slices.Equal(all, []uint64{1, 1, 0, 0}) {
		t.Error(all, wrong)
	}
}

// P7.1: the width is the first kid's, not the node's own: comparisons of width 8 and 64 answer a bit.
func TestWidthOfComparisons(t *testing.T) {
	// By their lowest bits alone, both pairs would be the same.
	wantOf(t, []api.Node{konst(8, 2), konst(8, 4), node(api.OpEq, 1, 0, 1)}, api.Env{}, 0)
	wantOf(t, []api.Node{konst(64, 256), konst(64, 512), node(api.OpLess, 1, 0, 1)}, api.Env{}, 1)
	wantOf(t, []api.Node{konst(64, 128), konst(64, 1), node(api.OpBelow, 1, 0, 1)}, api.Env{}, 0)
}

// P7.1: All tells 0 of arrays, whatever bytes they have, and every node, those on which the root doesn't hang too.
func TestAllOfEveryNode(t *testing.T) {
	var l list
	mem := l.add(node(api.OpMem, 0))
	l.add(node(api.OpBlank, 0))
	a := l.put(mem, 0, 9)
	l.get(a, 0)
	l.add(konst(64, 77))
	e := api.Env{Mem: []byte{1, 2, 3}}
	all, wrong := All(l, e)
	if wrong != api.OK || !slices.Equal(all, []uint64{0, 0, 0, 9, 0, 0, 9, 77}) {
		t.Error(all, wrong)
	}
	wantOf(t, l, e, 77)
}

// P7.2: what was put is got; the bytes beside it, and all others, are as they were.
func TestPutAndGet(t *testing.T) {
	e := api.Env{Mem: []byte{11, 12, 13, 14}}
	for _, under := range []int{api.OpMem, api.OpBlank} {
		for _, at := range []uint64{0, 1, 2, 3, 4, 5, 255, 1 << 20, 1<<63 - 1, 1 << 63, math.MaxUint64 - 1, math.MaxUint64} {
			l := list{node(under, 0)}
			array := l.put(0, at, 200)
			was := plain{l, e}
			for _, ask := range []uint64{at - 2, at - 1, at, at + 1, at + 2, at ^ 1<<63, at ^ 1<<32, at ^ 256, 0, 3, 4, math.MaxUint64} {
				want := was.byte(0, ask)
				if ask == at {
					want = 200
				}
				wantByte(t, l, e, ask, want)
				m := slices.Clone(l)
				m.get(array, ask)
				wantOf(t, m, e, uint64(want))
				m = slices.Clone(l)
				m.get(0, ask)
				wantOf(t, m, e, uint64(was.byte(0, ask)))
			}
		}
	}
}

// P7.2: a byte put twice at one number is the one put last; a 0 is put as well; bytes put at the numbers beside it stay.
func TestPutTwice(t *testing.T) {
	for _, at := range []uint64{0, 1, 2, 63, 64, 1 << 63, math.MaxUint64} {
		l := list{node(api.OpMem, 0)}
		e := api.Env{Mem: []byte{5, 6, 7}}
		first := l.put(0, at, 1)
		beside := l.put(l.put(first, at+1, 2), at-1, 3)
		last := l.put(beside, at, 4)
		gone := l.put(last, at, 0)
		for array, want := range map[int][3]byte{first: {1, 0, 0}, beside: {1, 2, 3}, last: {4, 2, 3}, gone: {0, 2, 3}} {
			wantByte(t, l[:array+1], e, at, want[0])
			if array != first {
				wantByte(t, l[:array+1], e, at+1, want[1])
				wantByte(t, l[:array+1], e, at-1, want[2])
			}
		}
		wantByte(t, l, e, at+2, plain{l, e}.byte(0, at+2))
	}
}

// P7.2: two arrays made of one have each its own byte, and the one has neither.
func TestArraysShared(t *testing.T) {
	l := list{node(api.OpBlank, 0)}
	base := l.put(l.put(l.put(0, 4, 40), 6, 60), 0, 10)
	left := l.put(base, 4, 41)
	right := l.put(base, 4, 42)
	deep := l.put(base, 6, 61)
	more := l.put(left, 20, 1)
	for _, x := range []struct {
		array      int
		four, six  byte
		twenty, no byte
	}{{base, 40, 60, 0, 10}, {left, 41, 60, 0, 10}, {right, 42, 60, 0, 10}, {deep, 40, 61, 0, 10}, {more, 41, 60, 1, 10}} {
		m := slices.Clone(l)
		a, b, c, d := m.get(x.array, 4), m.get(x.array, 6), m.get(x.array, 20), m.get(x.array, 0)
		all, wrong := All(m, api.Env{})
		if wrong != api.OK || all[a] != uint64(x.four) || all[b] != uint64(x.six) || all[c] != uint64(x.twenty) || all[d] != uint64(x.no) {
			t.Error(x, all, wrong)
		}
	}
}

// P7.2: the number and the byte of a put may be what was got from the array itself.
func TestPutsByWhatWasGot(t *testing.T) {
	l := list{node(api.OpMem, 0), konst(64, 0)}
	got := l.add(node(api.OpGet, 8, 0, 1))
	at := l.add(node(api.OpWide, 64, got))
	here := l.add(node(api.OpPut, 0, 0, at, got))
	again := l.add(node(api.OpGet, 8, here, at))
	l.add(node(api.OpEq, 1, got, again))
	for b := range 256 {
		e := api.Env{Mem: []byte{byte(b), 99}}
		wantOf(t, l, e, 1)
		wantByte(t, l[:here+1], e, uint64(b), byte(b))
		asRuled(t, l, e)
	}
}

// P7.1, P7.2: terms of all kinds in environments of all kinds, as the chapter says.
func TestAsRuled(t *testing.T) {
	d := draw(71)
	ops := map[string]int{}
	for range 1500 {
		l := grownTerm(&d, 6+d.below(24))
		asRuled(t, l, grownEnv(&d))
		for _, n := range l {
			ops[fmt.Sprint(n.Op, " ", n.W)]++
		}
	}
	// 14 operations have three widths each, the other 11 one.
	for what, n := range ops {
		if n < 10 {
			t.Error(what, n)
		}
	}
	if len(ops) != 14*3+11 {
		t.Error(len(ops), ops)
	}
}

// P7.2: rows of puts at few and at many numbers, into one another and into the same arrays.
func TestManyPuts(t *testing.T) {
	d := draw(72)
	for _, among := range []func() uint64{
		func() uint64 { return uint64(d.below(5)) },
		func() uint64 { return uint64(d.below(300)) },
		func() uint64 { return d.some() },
		func() uint64 { return 1 << d.below(64) },
		func() uint64 { return math.MaxUint64 << d.below(65) },
		func() uint64 { return uint64(d.below(4)) << 62 },
		d.next,
	} {
		for range 3 {
			l := list{node(api.OpMem, 0)}
			e := api.Env{Mem: d.bytes(d.among(0, 3, 64))}
			arrays, bytes := []int{0}, []map[uint64]byte{{}}
			var numbers []uint64
			for range 150 {
				under := max(d.below(len(arrays)), d.below(len(arrays)), d.below(len(arrays)))
				at, b := among(), byte(d.next()>>9)
				has := map[uint64]byte{at: b}
				for n, old := range bytes[under] {
					if n != at {
						has[n] = old
					}
				}
				arrays, bytes = append(arrays, l.put(arrays[under], at, b)), append(bytes, has)
				numbers = append(numbers, at, at+1, at-1)
			}
			for i, array := range arrays {
				for range 12 {
					at := numbers[d.below(len(numbers))]
					want, was := bytes[i][at]
					if !was && at < uint64(len(e.Mem)) {
						want = e.Mem[at]
					}
					wantByte(t, l[:array+1], e, at, want)
				}
			}
		}
	}
}

// apart is the term of a node in which no node is shared: each stands as often as it is named.
func apart(l []api.Node, place int, out *list) int {
	n := l[place]
	for i, k := range kidsOf(n) {
		n.K[i] = apart(l, k, out)
	}
	return out.add(n)
}

// moved is the term with its nodes in another order, each still behind its kids, and the root last.
func moved(d *draw, l []api.Node) []api.Node {
	now := make([]int, len(l))
	for i := range now {
		now[i] = -1
	}
	var out list
	for len(out) < len(l) {
		i := d.below(len(l))
		n := l[i]
		ready := now[i] < 0 && (i < len(l)-1 || len(out) == len(l)-1)
		for k, at := range kidsOf(n) {
			ready = ready && now[at] >= 0
			n.K[k] = now[at]
		}
		if ready {
			now[i] = out.add(n)
		}
	}
	return out
}

// sameValue holds the values of two terms against each other.
func sameValue(t *testing.T, l, m []api.Node, e api.Env) {
	t.Helper()
	v, wrong := Of(l, e)
	if x, alsoWrong := Of(m, e); x != v || alsoWrong != wrong {
		t.Fatal(l, m, e, v, wrong, x, alsoWrong)
	}
	for _, at := range numbersToAsk(e) {
		b, wrong := Byte(l, e, at)
		if c, alsoWrong := Byte(m, e, at); c != b || alsoWrong != wrong {
			t.Fatal(l, m, e, at, b, wrong, c, alsoWrong)
		}
	}
}

// P7.2: how nodes are shared, and in which order they stand, plays no part: put into an arena and told again, written apart, moved.
func TestSharingPlaysNoPart(t *testing.T) {
	d := draw(73)
	written := 0
	for range 600 {
		l := grownTerm(&d, 6+d.below(20))
		e := grownEnv(&d)
		a := term.New()
		if _, wrong := a.Put(grownTerm(&d, 20)); wrong != api.OK {
			t.Fatal(wrong)
		}
		at, wrong := a.Put(l)
		if wrong != api.OK {
			t.Fatal(wrong)
		}
		sameValue(t, l, a.Term(at), e)
		sameValue(t, l, moved(&d, l), e)
		var m list
		apart(l, len(l)-1, &m)
		if len(m) <= api.MaxNodes {
			sameValue(t, l, m, e)
			written++
		}
	}
	if written < 500 {
		t.Error(written)
	}
}

// P7.2: nodes that hang on one node, doubled again and again, are worked out once each.
func TestSharedOftenEnds(t *testing.T) {
	l := list{input(0), node(api.OpWide, 64, 0)}
	for len(l) < 70 {
		l.add(node(api.OpAdd, 64, len(l)-1, len(l)-1))
	}
	wantOf(t, l[:2+63], api.Env{Input: []byte{1}}, 1<<63)
	wantOf(t, l, api.Env{Input: []byte{1}}, 0)
}

// hangsOn tells which inputs and registers the root hangs on, and whether on memory.
func hangsOn(l []api.Node) (inputs [16]bool, regs [8]bool, mem bool) {
	needed := map[int]bool{len(l) - 1: true}
	for i := len(l) - 1; i >= 0; i-- {
		if !needed[i] {
			continue
		}
		for _, k := range kidsOf(l[i]) {
			needed[k] = true
		}
		switch l[i].Op {
		case api.OpInput:
			inputs[l[i].N] = true
		case api.OpReg:
			regs[l[i].N] = true
		case api.OpMem:
			mem = true
		}
	}
	return
}

// P7.2: a term's value hangs on no leaf that it hasn't.
func TestOtherLeavesPlayNoPart(t *testing.T) {
	d := draw(74)
	for range 1500 {
		l := grownTerm(&d, 6+d.below(20))
		e, other := grownEnv(&d), grownEnv(&d)
		e.Input, other.Input = d.bytes(16), d.bytes(16)
		inputs, regs, mem := hangsOn(l)
		for i, named := range inputs {
			if named {
				other.Input[i] = e.Input[i]
			}
		}
		for i, named := range regs {
			if named {
				other.Regs[i] = e.Regs[i]
			}
		}
		if mem {
			other.Mem = e.Mem
		}
		v, wrong := Of(l, e)
		if x, alsoWrong := Of(l, other); x != v || alsoWrong != wrong {
			t.Fatal(l, e, other, v, x)
		}
		b, wrong := Byte(l, e, 1)
		if c, alsoWrong := Byte(l, other, 1); c != b || alsoWrong != wrong {
			t.Fatal(l, e, other, b, c)
		}
	}
}

// refused holds all three calls against an error, beside which there is nothing.
func refused(t *testing.T, l []api.Node, e api.Env, of, all, byte api.Errno) {
	t.Helper()
	if v, wrong := Of(l, e); v != 0 || wrong != of {
		t.Error("Of", len(l), v, wrong, of)
	}
	if v, wrong := All(l, e); all != api.OK && (len(v) != 0 || wrong != all) {
		t.Error("All", len(l), v, wrong, all)
	}
	for _, at := range []uint64{0, 1, math.MaxUint64} {
		if b, wrong := Byte(l, e, at); b != 0 || wrong != byte {
			t.Error("Byte", len(l), at, b, wrong, byte)
		}
	}
}

// P7.1: lists that are no terms have Check's error, whatever the root is.
func TestNoTerms(t *testing.T) {
	e := api.Env{Input: []byte{1, 2}, Mem: []byte{3, 4}, Regs: [8]uint64{5, 6, 7, 8, 9, 10, 11, 12}}
	for _, x := range []struct {
		wrong api.Errno
		l     []api.Node
	}{
		{api.ErrNone, nil}, {api.ErrNone, []api.Node{}},
		{api.ErrOp, []api.Node{{Op: 25}}}, {api.ErrOp, []api.Node{{Op: -1}}}, {api.ErrOp, []api.Node{{Op: math.MinInt}}}, {api.ErrOp, []api.Node{{Op: math.MaxInt}}},
		{api.ErrKid, []api.Node{node(api.OpNot, 8)}}, {api.ErrKid, []api.Node{konst(8, 1), node(api.OpNot, 8, 1)}}, {api.ErrKid, []api.Node{konst(8, 1), node(api.OpNot, 8, -1)}}, {api.ErrKid, []api.Node{konst(8, 1), node(api.OpNot, 8, math.MaxInt)}}, {api.ErrKid, []api.Node{konst(8, 1), node(api.OpNot, 8, 0, 1)}},
		{api.ErrWidth, []api.Node{konst(7, 1)}}, {api.ErrWidth, []api.Node{node(api.OpBlank, 8)}}, {api.ErrWidth, []api.Node{node(api.OpBlank, 0), node(api.OpNot, 0, 0)}}, {api.ErrWidth, []api.Node{konst(8, 1), node(api.OpGet, 8, 0, 0)}}, {api.ErrWidth, []api.Node{node(api.OpBlank, 0), konst(1, 1), node(api.OpIf, 0, 1, 0, 0)}},
		{api.ErrRange, []api.Node{konst(8, 256)}}, {api.ErrRange, []api.Node{konst(1, 2)}}, {api.ErrRange, []api.Node{input(16)}}, {api.ErrRange, []api.Node{reg(8)}}, {api.ErrRange, []api.Node{reg(math.MaxUint64)}}, {api.ErrRange, []api.Node{{Op: api.OpMem, N: 1}}},
		// A wrong node far ahead of a root that is right, an array or a number: the list is no term.
		{api.ErrRange, []api.Node{input(16), node(api.OpBlank, 0)}}, {api.ErrRange, []api.Node{reg(8), konst(8, 1)}}, {api.ErrOp, []api.Node{{Op: 99}, node(api.OpMem, 0)}}, {api.ErrKid, []api.Node{node(api.OpPut, 0), konst(64, 1)}},
		// Several: the first.
		{api.ErrRange, []api.Node{reg(8), {Op: 99}}}, {api.ErrOp, []api.Node{{Op: 99}, reg(8)}},
	} {
		refused(t, x.l, e, x.wrong, x.wrong, x.wrong)
	}
}

// P7.1: Check's error of lists that were spoiled somewhere, and ErrWidth only of terms.
func TestSpoiledTerms(t *testing.T) {
	d := draw(75)
	told := map[api.Errno]int{}
	for range 3000 {
		l := grownTerm(&d, 6+d.below(10))
		n := &l[d.below(len(l))]
		switch d.below(4) {
		case 0:
			n.Op = d.among(-1, 25, math.MinInt, d.below(25))
		case 1:
			n.W = d.among(-1, 0, 1, 8, 64)
		case 2:
			n.N = d.some()
		case 3:
			n.K[d.below(3)] = d.among(-1, d.below(20), math.MaxInt)
		}
		e := grownEnv(&d)
		wrong, _ := term.Check(l)
		told[wrong]++
		if wrong == api.OK {
			asRuled(t, l, e)
		} else {
			refused(t, l, e, wrong, wrong, wrong)
		}
	}
	for _, wrong := range []api.Errno{api.OK, api.ErrOp, api.ErrKid, api.ErrWidth, api.ErrRange} {
		if told[wrong] < 50 {
			t.Error(wrong, told)
		}
	}
}

// P7.1: Of an array, and Byte of a number, of each width, are ErrWidth.
func TestWrongRoots(t *testing.T) {
	e := api.Env{Mem: []byte{7, 8}}
	for _, l := range [][]api.Node{
		{node(api.OpMem, 0)}, {node(api.OpBlank, 0)}, {konst(64, 0), konst(8, 9), node(api.OpMem, 0), node(api.OpPut, 0, 2, 0, 1)},
	} {
		if v, wrong := Of(l, e); v != 0 || wrong != api.ErrWidth {
			t.Error(l, v, wrong)
		}
	}
	for _, l := range [][]api.Node{
		{konst(1, 1)}, {konst(8, 9)}, {konst(64, math.MaxUint64)}, {input(0)}, {reg(0)}, {konst(64, 0), node(api.OpMem, 0), node(api.OpGet, 8, 1, 0)},
	} {
		for _, at := range []uint64{0, 1, math.MaxUint64} {
			if b, wrong := Byte(l, e, at); b != 0 || wrong != api.ErrWidth {
				t.Error(l, b, wrong)
			}
		}
	}
}

// P7.1: a term of 65536 nodes has a value, one node more has none.
func TestMostNodes(t *testing.T) {
	l := list{konst(64, 1)}
	for len(l) < 65536 {
		l.add(node(api.OpAdd, 64, len(l)-1, 0))
	}
	wantOf(t, l, api.Env{}, 65536)
	if all, wrong := All(l, api.Env{}); wrong != api.OK || len(all) != 65536 || all[65535] != 65536 || all[1234] != 1235 {
		t.Error(len(all), wrong)
	}
	l.add(node(api.OpAdd, 64, 0, 0))
	refused(t, l, api.Env{}, api.ErrFull, api.ErrFull, api.ErrFull)
	l[65536] = node(api.OpBlank, 0)
	refused(t, l, api.Env{}, api.ErrFull, api.ErrFull, api.ErrFull)
	l[65535] = reg(8)
	refused(t, l, api.Env{}, api.ErrRange, api.ErrRange, api.ErrRange)
}

// P7.2, rule 5: the longest rows of puts, at numbers in order and at such as differ in their highest bits alone, many asked for again: every byte is there.
func TestLongRows(t *testing.T) {
	for _, far := range []func(n uint64) uint64{
		func(n uint64) uint64 { return n },
		func(n uint64) uint64 { return n << 48 },
		func(n uint64) uint64 { return n * 0x9e3779b97f4a7c15 },
		func(n uint64) uint64 { return 1 << (n % 64) },
		func(n uint64) uint64 { return math.MaxUint64 << (n % 65) },
	} {
		l := list{node(api.OpBlank, 0), konst(8, 0), konst(8, 1)}
		array, want := 0, map[uint64]byte{}
		for n := uint64(0); len(l) < 39000; n++ {
			at := l.add(konst(64, far(n)))
			array = l.add(node(api.OpPut, 0, array, at, 1+int(n%2)))
			want[far(n)] = byte(n % 2)
		}
		gets := map[int]byte{}
		for n := uint64(0); len(l) < 65534; n += 3 {
			at := far(n)
			gets[l.get(array, at)] = want[at]
		}
		all, wrong := All(l, api.Env{})
		if wrong != api.OK {
			t.Fatal(wrong)
		}
		for i, b := range gets {
			if all[i] != uint64(b) {
				t.Fatal(i, l[i], all[i], b)
			}
		}
	}
}

// Rule 3: an answer is new memory, and what was handed in may be changed when it is there.
func TestAnswersAreNew(t *testing.T) {
	d := draw(76)
	l, e := grownTerm(&d, 30), grownEnv(&d)
	first, _ := All(l, e)
	was := slices.Clone(first)
	second, _ := All(l, e)
	for i := range second[:cap(second)] {
		second[:cap(second)][i]++
	}
	for i := range l {
		l[i] = node(77, 7, 7)
	}
	clear(e.Input)
	clear(e.Mem)
	if !slices.Equal(first, was) {
		t.Error(first, was)
	}
}

// Rule 4: what was asked ahead plays no part, and environments don't mix.
func TestNothingIsKept(t *testing.T) {
	l := list{node(api.OpMem, 0), input(0), reg(0)}
	l.add(node(api.OpPut, 0, 0, 2, 1))
	for round := range byte(5) {
		e := api.Env{Input: []byte{100 + round}, Mem: []byte{round, round + 1}, Regs: [8]uint64{1}}
		wantByte(t, l, e, 0, round)
		wantByte(t, l, e, 1, 100+round)
		wantByte(t, l, api.Env{}, 0, 0)
		wantByte(t, l, api.Env{}, 1, 0)
	}
}
