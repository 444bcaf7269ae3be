package machine

import (
	"fmt"
	"math"
	"math/big"
	"slices"
	"strings"
	"testing"

	"backreach/api"
	"backreach/image"
	"backreach/listing"
)

// draw is a row of numbers that is the same each time.
type draw uint64

func (d *draw) next() uint64 {
	*d = *d*6364136223846793005 + 1442695040888963407
	x := uint64(*d)
	return (x ^ x>>33) * 0xff51afd7ed558ccd
}

func (d *draw) below(n int) int {
	return int(d.next() >> 11 % uint64(n))
}

func (d *draw) among(x ...uint64) uint64 {
	return x[d.below(len(x))]
}

func program(t testing.TB, lines ...string) api.Image {
	t.Helper()
	p, e, line := listing.Parse(strings.Join(lines, "\n"))
	if e != api.OK {
		t.Fatal(lines, e, line)
	}
	return p
}

func two64() *big.Int {
	return new(big.Int).Lsh(big.NewInt(1), 64)
}

func number(x uint64) *big.Int {
	return new(big.Int).SetUint64(x)
}

// signed is x as a number that may be negative.
func signed(x uint64) *big.Int {
	n := number(x)
	if n.Bit(63) == 1 {
		n.Sub(n, two64())
	}
	return n
}

func truth(b bool) *big.Int {
	if b {
		return big.NewInt(1)
	}
	return big.NewInt(0)
}

// answered is what chapter 1 says of 64 bits, by an instruction's number, with numbers that have no width; y isn't 0 of Div and Rem.
func answered(op int, x, y uint64) uint64 {
	a, b, r := number(x), number(y), new(big.Int)
	by := uint(min(y, 64))
	switch op {
	case api.Add:
		r.Add(a, b)
	case api.Sub:
		r.Sub(a, b)
	case api.Mul:
		r.Mul(a, b)
	case api.Div:
		r.Div(a, b)
	case api.Rem:
		r.Mod(a, b)
	case api.And:
		r.And(a, b)
	case api.Or:
		r.Or(a, b)
	case api.Xor:
		r.Xor(a, b)
	case api.Shl:
		r.Lsh(a, by)
	case api.Shr:
		r.Rsh(a, by)
	case api.Sar:
		r.Rsh(signed(x), by)
	case api.Same:
		r = truth(a.Cmp(b) == 0)
	case api.Less:
		r = truth(a.Cmp(b) < 0)
	case api.Below:
		r = truth(signed(x).Cmp(signed(y)) < 0)
	}
	return r.Mod(r, two64()).Uint64()
}

func copied(s State) State {
	s.Mem, s.Open = slices.Clone(s.Mem), slices.Clone(s.Open)
	return s
}

func same(s, u State) bool {
	return s.Place == u.Place && s.Regs == u.Regs && slices.Equal(s.Mem, u.Mem) && slices.Equal(s.Open, u.Open)
}

// cells is the n places from an address on, and whether all are below size.
func cells(address *big.Int, n, size int) ([]int64, bool) {
	var at []int64
	for k := range n {
		x := new(big.Int).Add(address, big.NewInt(int64(k)))
		if x.Cmp(big.NewInt(int64(size))) >= 0 {
			return nil, false
		}
		at = append(at, x.Int64())
	}
	return at, true
}

// moved is what the chapter says of the operations that work on memory or input, written a second time.
func moved(i api.Ins, input []byte, u *State) int {
	address := new(big.Int).Add(number(u.Regs[i.B]), number(i.Imm))
	address.Mod(address, two64())
	if i.Op == api.Input {
		at, there := cells(address, 1, len(input))
		if !there {
			return api.EndInput
		}
		u.Regs[i.A] = uint64(input[at[0]])
		return api.EndSteps
	}
	at, there := cells(address, i.C, len(u.Mem))
	if !there {
		return api.EndAddress
	}
	sum, value := new(big.Int), number(u.Regs[i.A])
	for n, k := range at {
		if i.Op == api.Save {
			u.Mem[k] = byte(new(big.Int).Rsh(value, uint(8*n)).Uint64() % 256)
		}
		sum.Add(sum, new(big.Int).Lsh(big.NewInt(int64(u.Mem[k])), uint(8*n)))
	}
	if i.Op == api.Load {
		u.Regs[i.A] = sum.Uint64()
	}
	return api.EndSteps
}

// expected is what the chapter says of a step, written a second time.
func expected(p api.Image, input []byte, s State) (State, int) {
	i, u := p.Code[s.Place], copied(s)
	u.Place++
	switch i.Op {
	case api.Halt:
		return s, api.EndHalt
	case api.Fail:
		return s, api.EndFail
	case api.Set:
		u.Regs[i.A] = i.Imm
	case api.Copy:
		u.Regs[i.A] = s.Regs[i.B]
	case api.Length:
		u.Regs[i.A] = uint64(len(input))
	case api.Load, api.Save, api.Input:
		if end := moved(i, input, &u); end != api.EndSteps {
			return s, end
		}
	case api.Branch:
		if s.Regs[i.A] != 0 {
			u.Place = int(i.Imm)
		}
	case api.Jump:
		u.Place = int(i.Imm)
	case api.Call:
		if len(s.Open) == p.Stack {
			return s, api.EndStack
		}
		u.Open = append(u.Open, u.Place)
		u.Place = p.Funs[i.Imm]
	case api.Back:
		if len(s.Open) == 0 {
			return s, api.EndHalt
		}
		u.Place, u.Open = u.Open[len(u.Open)-1], u.Open[:len(u.Open)-1]
	default:
		if s.Regs[i.C] == 0 && (i.Op == api.Div || i.Op == api.Rem) {
			return s, api.EndDivide
		}
		u.Regs[i.A] = answered(i.Op, s.Regs[i.B], s.Regs[i.C])
	}
	return u, api.EndSteps
}

// expectedRun is what the chapter says of a run of an image that is right, written a second time; and the most places that were open.
func expectedRun(p api.Image, input []byte, steps int) (api.Trace, int) {
	s := State{Mem: make([]byte, p.Mem)}
	copy(s.Mem, p.Data)
	path, end, most := []int{0}, api.EndSteps, 0
	for n := 0; n < steps && n < 4096 && end == api.EndSteps; n++ {
		if s, end = expected(p, input, s); end == api.EndSteps {
			path = append(path, s.Place)
		}
		most = max(most, len(s.Open))
	}
	return api.Trace{Path: path, End: end, Regs: s.Regs, Mem: s.Mem}, most
}

func sameTrace(u, v api.Trace) bool {
	return slices.Equal(u.Path, v.Path) && u.End == v.End && u.Regs == v.Regs && slices.Equal(u.Mem, v.Mem)
}

// roomy is x with room to spare, in which something stands.
func roomy[T byte | int](x []T) []T {
	r := make([]T, len(x)+5)
	copy(r, x)
	for n := len(x); n < len(r); n++ {
		r[n] = T(100 + n)
	}
	return r[:len(x)]
}

func whole[T any](x []T) []T {
	return slices.Clone(x[:cap(x)])
}

// spoil writes over all of a list, its spare room too.
func spoil[T byte | int](x []T) {
	x = x[:cap(x)]
	for n := range x {
		x[n] += 77
	}
}

// look holds a step against the chapter, and whether it leaves what it is handed alone; it tells the end.
func look(t *testing.T, p api.Image, input []byte, s State) int {
	t.Helper()
	input, s.Mem, s.Open = roomy(input), roomy(s.Mem), roomy(s.Open)
	in, mem, open := whole(input), whole(s.Mem), whole(s.Open)
	before := copied(s)
	u, end := Step(p, input, s)
	v, last := expected(p, input, before)
	if end != last || !same(u, v) {
		t.Fatalf("Step(%v, %v, %v): %v %v, not %v %v", p, input, before, u, end, v, last)
	}
	spoil(u.Mem)
	spoil(u.Open)
	if !same(s, before) || !slices.Equal(whole(input), in) || !slices.Equal(whole(s.Mem), mem) || !slices.Equal(whole(s.Open), open) {
		t.Fatalf("Step(%v, %v, %v) changed what it was handed, or its answer shares it", p, input, before)
	}
	return end
}

// anyWord is a number at some edge, or any.
func anyWord(d *draw) uint64 {
	return d.among(0, 1, 2, 3, 7, 8, 15, 16, 62, 63, 64, 65, 255, 256, 1<<31, 1<<32, 1<<63-1, 1<<63, 1<<63+1,
		math.MaxUint64, math.MaxUint64-1, math.MaxUint64-7, d.next(), d.next(), uint64(d.below(64)), uint64(d.below(16)))
}

// anyInstruction is one that is right in a function from one place to another of an image of so many functions.
func anyInstruction(d *draw, op, from, to, funs int) api.Ins {
	a, b, c := d.below(api.Regs), d.below(api.Regs), d.below(api.Regs)
	switch op {
	case api.Halt, api.Back, api.Fail:
		return api.Ins{Op: op}
	case api.Set:
		return api.Ins{Op: op, A: a, Imm: anyWord(d)}
	case api.Copy:
		return api.Ins{Op: op, A: a, B: b}
	case api.Load, api.Save:
		return api.Ins{Op: op, A: a, B: b, C: 1 << d.below(4), Imm: anyWord(d)}
	case api.Input:
		return api.Ins{Op: op, A: a, B: b, Imm: anyWord(d)}
	case api.Length:
		return api.Ins{Op: op, A: a}
	case api.Jump:
		return api.Ins{Op: op, Imm: uint64(from + d.below(to-from))}
	case api.Branch:
		return api.Ins{Op: op, A: a, Imm: uint64(from + d.below(to-from))}
	case api.Call:
		return api.Ins{Op: op, Imm: uint64(d.below(funs))}
	}
	return api.Ins{Op: op, A: a, B: b, C: c}
}

// anyOp is an operation, those that lead on oftener, so that runs get somewhere.
func anyOp(d *draw, last bool) int {
	switch n := d.below(10); {
	case last:
		return int(d.among(api.Halt, api.Jump, api.Jump, api.Back, api.Back, api.Fail))
	case n < 2:
		return api.Call
	case n < 4:
		return api.Branch
	case n < 5:
		return api.Set
	case n < 6:
		return api.Length
	}
	return d.below(api.Fail + 1)
}

// anyProgram is an image that is right.
func anyProgram(t *testing.T, d *draw) api.Image {
	t.Helper()
	p := api.Image{Mem: int(d.among(0, 1, 2, 3, 7, 8, 9, 63, 64)), Stack: int(d.among(0, 1, 2, 3, 15, 16)), Input: d.below(17)}
	for range d.below(p.Mem + 1) {
		p.Data = append(p.Data, byte(d.next()))
	}
	funs := 1 + d.below(4)
	for range funs {
		from := len(p.Code)
		to := from + 1 + d.below(7)
		p.Funs = append(p.Funs, from)
		for place := from; place < to; place++ {
			p.Code = append(p.Code, anyInstruction(d, anyOp(d, place+1 == to), from, to, funs))
		}
	}
	if _, e := image.Encode(p); e != api.OK {
		t.Fatal(p, e)
	}
	return p
}

func anyInput(d *draw, most int) []byte {
	b := make([]byte, d.below(most+1))
	for n := range b {
		b[n] = byte(d.next())
	}
	return b
}

// anyState is one that is p's, at a place.
func anyState(d *draw, p api.Image, place int) State {
	s := State{Place: place, Mem: make([]byte, p.Mem)}
	for n := range s.Regs {
		s.Regs[n] = anyWord(d)
	}
	for n := range s.Mem {
		s.Mem[n] = byte(d.next())
	}
	for range d.below(p.Stack + 1) {
		s.Open = append(s.Open, d.below(len(p.Code)))
	}
	return s
}

// P5.1: the place is 0, so are the registers; the memory is Data, and noughts behind it; nothing is open.
func TestStart(t *testing.T) {
	p := program(t, "rb64 4 2 1", "data 0709", "fun", "halt")
	if s := Start(p); !same(s, State{Mem: []byte{7, 9, 0, 0}}) {
		t.Error(s)
	}
	p = program(t, "rb64 0 0 0", "fun", "halt")
	if s := Start(p); !same(s, State{}) {
		t.Error(s)
	}
	p = program(t, "rb64 64 0 0", "data "+strings.Repeat("ff", 64), "fun", "halt")
	if s := Start(p); s.Place != 0 || len(s.Mem) != 64 || slices.Min(s.Mem) != 255 || len(s.Open) != 0 {
		t.Error(s)
	}
}

// Rule 3: a state shares nothing with the image, nor with another state.
func TestStartIsNew(t *testing.T) {
	p := program(t, "rb64 2 0 0", "data 0102", "fun", "halt")
	p.Data = roomy(p.Data)
	data := whole(p.Data)
	s, u := Start(p), Start(p)
	spoil(s.Mem)
	if !slices.Equal(u.Mem, []byte{1, 2}) || !slices.Equal(whole(p.Data), data) {
		t.Error(u, p)
	}
}

// single is an image in which i is at place 1, of a first function of three places; a second one has two.
func single(i api.Ins) api.Image {
	return api.Image{Mem: 16, Stack: 2, Input: 4, Funs: []int{0, 3}, Code: []api.Ins{
		{Op: api.Halt}, i, {Op: api.Halt}, {Op: api.Set, A: 1, Imm: 1}, {Op: api.Back},
	}}
}

// after is what a step of i tells, from place 1 with these registers, the memory 0 to 15 and the input 10, 11, 12.
func after(t *testing.T, i api.Ins, regs ...uint64) (State, int) {
	t.Helper()
	s := State{Place: 1, Mem: make([]byte, 16)}
	for n := range s.Mem {
		s.Mem[n] = byte(n)
	}
	copy(s.Regs[:], regs)
	p, input := single(i), []byte{10, 11, 12}
	if _, e := image.Encode(p); e != api.OK {
		t.Fatal(i, e)
	}
	look(t, p, input, s)
	return Step(p, input, s)
}

// P5.1: what A's register is, of each operation that gives it a number; all else is as it was.
func TestRegisters(t *testing.T) {
	const most = math.MaxUint64
	for _, x := range []struct {
		i    api.Ins
		b, c uint64
		a    uint64
	}{
		{api.Ins{Op: api.Set, A: 0, Imm: 5}, 1, 2, 5},
		{api.Ins{Op: api.Set, A: 0, Imm: most}, 1, 2, most},
		{api.Ins{Op: api.Copy, A: 0, B: 1}, 9, 2, 9},
		{api.Ins{Op: api.Copy, A: 0, B: 2}, 9, 2, 2},
		{api.Ins{Op: api.Length, A: 0}, 9, 9, 3},
		{api.Ins{Op: api.Add, A: 0, B: 1, C: 2}, 7, 3, 10},
		{api.Ins{Op: api.Add, A: 0, B: 1, C: 2}, most, 3, 2},
		{api.Ins{Op: api.Sub, A: 0, B: 1, C: 2}, 7, 3, 4},
		{api.Ins{Op: api.Sub, A: 0, B: 1, C: 2}, 3, 7, most - 3},
		{api.Ins{Op: api.Mul, A: 0, B: 1, C: 2}, 7, 3, 21},
		{api.Ins{Op: api.Mul, A: 0, B: 1, C: 2}, 1 << 63, 3, 1 << 63},
		{api.Ins{Op: api.Div, A: 0, B: 1, C: 2}, 7, 3, 2},
		{api.Ins{Op: api.Div, A: 0, B: 1, C: 2}, most, 2, 1<<63 - 1},
		{api.Ins{Op: api.Rem, A: 0, B: 1, C: 2}, 7, 3, 1},
		{api.Ins{Op: api.Rem, A: 0, B: 1, C: 2}, 3, most, 3},
		{api.Ins{Op: api.And, A: 0, B: 1, C: 2}, 12, 10, 8},
		{api.Ins{Op: api.And, A: 0, B: 1, C: 2}, most, 1 << 63, 1 << 63},
		{api.Ins{Op: api.Or, A: 0, B: 1, C: 2}, 12, 10, 14},
		{api.Ins{Op: api.Or, A: 0, B: 1, C: 2}, 0, 1 << 63, 1 << 63},
		{api.Ins{Op: api.Xor, A: 0, B: 1, C: 2}, 12, 10, 6},
		{api.Ins{Op: api.Xor, A: 0, B: 1, C: 2}, most, most, 0},
		{api.Ins{Op: api.Shl, A: 0, B: 1, C: 2}, 3, 63, 1 << 63},
		{api.Ins{Op: api.Shl, A: 0, B: 1, C: 2}, 3, 64, 0},
		{api.Ins{Op: api.Shr, A: 0, B: 1, C: 2}, 1 << 63, 63, 1},
		{api.Ins{Op: api.Shr, A: 0, B: 1, C: 2}, most, most, 0},
		{api.Ins{Op: api.Sar, A: 0, B: 1, C: 2}, 1 << 63, 62, most - 1},
		{api.Ins{Op: api.Sar, A: 0, B: 1, C: 2}, 1 << 62, 61, 2},
		{api.Ins{Op: api.Sar, A: 0, B: 1, C: 2}, 1 << 63, 64, most},
		{api.Ins{Op: api.Same, A: 0, B: 1, C: 2}, 4, 4, 1},
		{api.Ins{Op: api.Same, A: 0, B: 1, C: 2}, 4, 5, 0},
		{api.Ins{Op: api.Less, A: 0, B: 1, C: 2}, 4, most, 1},
		{api.Ins{Op: api.Less, A: 0, B: 1, C: 2}, most, 4, 0},
		{api.Ins{Op: api.Below, A: 0, B: 1, C: 2}, 4, most, 0},
		{api.Ins{Op: api.Below, A: 0, B: 1, C: 2}, most, 4, 1},
	} {
		u, end := after(t, x.i, 77, x.b, x.c, 3, 4, 5, 6, 7)
		if end != api.EndSteps || u.Place != 2 || u.Regs != [api.Regs]uint64{x.a, x.b, x.c, 3, 4, 5, 6, 7} || u.Mem[15] != 15 || len(u.Open) != 0 {
			t.Error(x, u, end)
		}
	}
}

// P5.1: a register that is both asked and given is asked first.
func TestOneRegister(t *testing.T) {
	for op := api.Add; op <= api.Below; op++ {
		for _, i := range []api.Ins{{Op: op, A: 3, B: 3, C: 3}, {Op: op, A: 3, B: 3, C: 4}, {Op: op, A: 3, B: 4, C: 3}} {
			after(t, i, 0, 0, 0, 200, 7)
			after(t, i, 0, 0, 0, math.MaxUint64, 1)
		}
	}
	if u, _ := after(t, api.Ins{Op: api.Load, A: 3, B: 3, C: 2, Imm: 1}, 0, 0, 0, 4); u.Regs[3] != 6<<8|5 {
		t.Error(u)
	}
	if u, _ := after(t, api.Ins{Op: api.Save, A: 3, B: 3, C: 2, Imm: 1}, 0, 0, 0, 4); u.Mem[5] != 4 || u.Mem[6] != 0 {
		t.Error(u)
	}
	if u, _ := after(t, api.Ins{Op: api.Input, A: 3, B: 3, Imm: 1}, 0, 0, 0, 1); u.Regs[3] != 12 {
		t.Error(u)
	}
}

// P5.1: of Div and Rem by 0 it ends, and the state is as it was.
func TestDivideByZero(t *testing.T) {
	for _, op := range []int{api.Div, api.Rem} {
		for _, x := range []uint64{0, 1, math.MaxUint64} {
			u, end := after(t, api.Ins{Op: op, A: 0, B: 1, C: 2}, 77, x, 0)
			if end != api.EndDivide || u.Place != 1 || u.Regs != [api.Regs]uint64{77, x} {
				t.Error(op, x, u, end)
			}
		}
	}
}

// P5.1: loads of each width, at the memory's end, just behind it, and where the address comes round.
func TestLoads(t *testing.T) {
	for _, x := range []struct {
		width  int
		b, imm uint64
		a      uint64
		end    int
	}{
		{1, 0, 0, 0, api.EndSteps},
		{1, 2, 3, 5, api.EndSteps},
		{2, 2, 3, 0x0605, api.EndSteps},
		{4, 2, 3, 0x08070605, api.EndSteps},
		{8, 2, 3, 0x0c0b0a0908070605, api.EndSteps},
		{1, 15, 0, 15, api.EndSteps},
		{2, 0, 14, 0x0f0e, api.EndSteps},
		{4, 6, 6, 0x0f0e0d0c, api.EndSteps},
		{8, 7, 1, 0x0f0e0d0c0b0a0908, api.EndSteps},
		{1, 16, 0, 77, api.EndAddress},
		{2, 0, 15, 77, api.EndAddress},
		{4, 7, 6, 77, api.EndAddress},
		{8, 8, 1, 77, api.EndAddress},
		{8, 16, 0, 77, api.EndAddress},
		{1, 17, 0, 77, api.EndAddress},
		{1, 1, math.MaxUint64, 0, api.EndSteps},
		{1, math.MaxUint64, 16, 15, api.EndSteps},
		{1, math.MaxUint64, 17, 77, api.EndAddress},
		{1, 1 << 63, 1<<63 + 4, 4, api.EndSteps},
		{8, 1 << 63, 1<<63 + 8, 0x0f0e0d0c0b0a0908, api.EndSteps},
		{1, math.MaxUint64, 0, 77, api.EndAddress},
		{2, math.MaxUint64, 0, 77, api.EndAddress},
		{8, 0, math.MaxUint64 - 7, 77, api.EndAddress},
		{8, 0, math.MaxUint64 - 6, 77, api.EndAddress},
		{1, 1 << 63, 0, 77, api.EndAddress},
		{1, 1 << 32, 0, 77, api.EndAddress},
	} {
		i := api.Ins{Op: api.Load, A: 0, B: 1, C: x.width, Imm: x.imm}
		u, end := after(t, i, 77, x.b)
		place := 2
		if x.end != api.EndSteps {
			place = 1
		}
		if end != x.end || u.Place != place || u.Regs != [api.Regs]uint64{x.a, x.b} {
			t.Error(x, u, end)
		}
	}
}

// P5.1: saves of each width, likewise; no byte beside them changes, and none where it ends.
func TestSaves(t *testing.T) {
	const value = 0x8877665544332211
	for _, x := range []struct {
		width  int
		b, imm uint64
		at     int
	}{
		{1, 0, 0, 0}, {1, 2, 3, 5}, {2, 2, 3, 5}, {4, 2, 3, 5}, {8, 2, 3, 5},
		{1, 15, 0, 15}, {2, 0, 14, 14}, {4, 6, 6, 12}, {8, 7, 1, 8},
		{1, 16, 0, -1}, {2, 0, 15, -1}, {4, 7, 6, -1}, {8, 8, 1, -1}, {8, 0, 15, -1},
		{1, 1, math.MaxUint64, 0}, {2, math.MaxUint64, 15, 14}, {8, 1 << 63, 1<<63 + 8, 8},
		{1, math.MaxUint64, 0, -1}, {2, math.MaxUint64, 0, -1}, {8, 0, math.MaxUint64 - 6, -1}, {1, 1 << 32, 0, -1},
	} {
		u, end := after(t, api.Ins{Op: api.Save, A: 0, B: 1, C: x.width, Imm: x.imm}, value, x.b)
		if x.at < 0 {
			if end != api.EndAddress || u.Place != 1 || u.Mem[15] != 15 {
				t.Error(x, u, end)
			}
			continue
		}
		if end != api.EndSteps || u.Place != 2 || u.Regs != [api.Regs]uint64{value, x.b} {
			t.Error(x, u, end)
		}
		for n, c := range u.Mem {
			want := byte(n)
			if n >= x.at && n < x.at+x.width {
				want = byte(0x11 * (n - x.at + 1))
			}
			if c != want {
				t.Error(x, n, u.Mem)
			}
		}
	}
}

// P5.1: a memory of no bytes has none anywhere; one of three has no four.
func TestSmallMemories(t *testing.T) {
	for size := range 10 {
		for _, width := range []int{1, 2, 4, 8} {
			for _, op := range []int{api.Load, api.Save} {
				p := api.Image{Mem: size, Funs: []int{0}, Code: []api.Ins{{Op: op, C: width}, {Op: api.Halt}}}
				want := api.EndSteps
				if width > size {
					want = api.EndAddress
				}
				if end := look(t, p, nil, Start(p)); end != want {
					t.Error(op, size, width, end)
				}
			}
		}
	}
}

// P5.1: a byte of the input, at its end, behind it, and where the place comes round. How long an input may be plays no part, but how long it is.
func TestInputBytes(t *testing.T) {
	for _, x := range []struct {
		b, imm, a uint64
		end       int
	}{
		{0, 0, 10, api.EndSteps}, {1, 0, 11, api.EndSteps}, {1, 1, 12, api.EndSteps},
		{0, 3, 77, api.EndInput}, {3, 0, 77, api.EndInput}, {2, 2, 77, api.EndInput},
		{1, math.MaxUint64, 10, api.EndSteps}, {math.MaxUint64, 3, 12, api.EndSteps}, {math.MaxUint64, 4, 77, api.EndInput},
		{math.MaxUint64, 0, 77, api.EndInput}, {0, 1 << 63, 77, api.EndInput}, {1 << 63, 1 << 63, 10, api.EndSteps}, {1 << 32, 0, 77, api.EndInput},
	} {
		u, end := after(t, api.Ins{Op: api.Input, A: 0, B: 1, Imm: x.imm}, 77, x.b)
		if end != x.end || u.Regs != [api.Regs]uint64{x.a, x.b} || (u.Place == 2) != (end == api.EndSteps) {
			t.Error(x, u, end)
		}
	}
	p := program(t, "rb64 0 0 16", "fun", "input r1 r0 0", "length r2", "halt")
	if end := look(t, p, nil, Start(p)); end != api.EndInput {
		t.Error(end)
	}
	for n := range 17 {
		input := slices.Repeat([]byte{255}, n)
		if u, _ := Step(p, input, State{Place: 1}); u.Regs[2] != uint64(n) {
			t.Error(n, u)
		}
		if u, _ := Step(p, input, State{}); n > 0 && u.Regs[1] != 255 {
			t.Error(n, u)
		}
	}
}

// P5.1: where control goes, and the ends that are told of nothing but the operation.
func TestControl(t *testing.T) {
	for _, x := range []struct {
		i     api.Ins
		r0    uint64
		place int
		end   int
	}{
		{api.Ins{Op: api.Halt}, 1, 1, api.EndHalt},
		{api.Ins{Op: api.Fail}, 1, 1, api.EndFail},
		{api.Ins{Op: api.Back}, 1, 1, api.EndHalt},
		{api.Ins{Op: api.Jump, Imm: 0}, 0, 0, api.EndSteps},
		{api.Ins{Op: api.Jump, Imm: 1}, 0, 1, api.EndSteps},
		{api.Ins{Op: api.Jump, Imm: 2}, 0, 2, api.EndSteps},
		{api.Ins{Op: api.Branch, Imm: 0}, 0, 2, api.EndSteps},
		{api.Ins{Op: api.Branch, Imm: 0}, 1, 0, api.EndSteps},
		{api.Ins{Op: api.Branch, Imm: 1}, 1 << 63, 1, api.EndSteps},
		{api.Ins{Op: api.Branch, Imm: 2}, 1, 2, api.EndSteps},
		{api.Ins{Op: api.Branch, Imm: 0}, 256, 0, api.EndSteps},
	} {
		u, end := after(t, x.i, x.r0)
		if end != x.end || u.Place != x.place || u.Regs[0] != x.r0 || len(u.Open) != 0 {
			t.Error(x, u, end)
		}
	}
}

// P5.1: a Call opens the place behind, unless as many are open as may be; a Back closes the one that was opened last.
func TestCalls(t *testing.T) {
	p := single(api.Ins{Op: api.Call, Imm: 1})
	for _, x := range []struct {
		stack      int
		open, want []int
		end        int
	}{
		{0, nil, nil, api.EndStack},
		{1, nil, []int{2}, api.EndSteps},
		{1, []int{4}, []int{4}, api.EndStack},
		{2, []int{4}, []int{4, 2}, api.EndSteps},
		{2, []int{4, 2}, []int{4, 2}, api.EndStack},
		{16, slices.Repeat([]int{1}, 15), append(slices.Repeat([]int{1}, 15), 2), api.EndSteps},
		{16, slices.Repeat([]int{1}, 16), slices.Repeat([]int{1}, 16), api.EndStack},
	} {
		p.Stack = x.stack
		s := State{Place: 1, Mem: make([]byte, 16), Open: x.open}
		look(t, p, nil, s)
		u, end := Step(p, nil, s)
		if end != x.end || !slices.Equal(u.Open, x.want) || (u.Place == 3) != (end == api.EndSteps) {
			t.Error(x, u, end)
		}
	}
	p = single(api.Ins{Op: api.Back})
	s := State{Place: 1, Mem: make([]byte, 16), Open: []int{4, 2}}
	look(t, p, nil, s)
	u, end := Step(p, nil, s)
	if end != api.EndSteps || u.Place != 2 || !slices.Equal(u.Open, []int{4}) {
		t.Error(u, end)
	}
	u.Place = 1
	u, end = Step(p, nil, u)
	if end != api.EndSteps || u.Place != 4 || len(u.Open) != 0 {
		t.Error(u, end)
	}
}

// P5.1: a Call to each of the most functions, its own too, goes where that one begins.
func TestCallsEach(t *testing.T) {
	p := api.Image{Stack: 1}
	for n := range api.MaxFuns {
		p.Funs = append(p.Funs, len(p.Code))
		p.Code = append(p.Code, api.Ins{Op: api.Call, Imm: uint64(api.MaxFuns - 1 - n)})
		p.Code = append(p.Code, slices.Repeat([]api.Ins{{Op: api.Halt}}, 1+n%3)...)
	}
	for n, place := range p.Funs {
		look(t, p, nil, State{Place: place})
		u, end := Step(p, nil, State{Place: place})
		if end != api.EndSteps || u.Place != p.Funs[api.MaxFuns-1-n] || !slices.Equal(u.Open, []int{place + 1}) {
			t.Error(n, u, end)
		}
	}
	p.Code[0].Imm = 0
	if u, end := Step(p, nil, Start(p)); end != api.EndSteps || u.Place != 0 || !slices.Equal(u.Open, []int{1}) {
		t.Error(u, end)
	}
}

// P5.1, Rule 3: every operation, from many states.
func TestEveryOperation(t *testing.T) {
	d := draw(1)
	for op := api.Halt; op <= api.Fail; op++ {
		ends := map[int]int{}
		for range 400 {
			p := single(anyInstruction(&d, op, 0, 3, 2))
			p.Mem, p.Stack = d.below(17), d.below(3)
			ends[look(t, p, anyInput(&d, 4), anyState(&d, p, 1))]++
		}
		if ends[api.EndSteps] == 0 && op != api.Halt && op != api.Fail {
			t.Error(op, ends)
		}
	}
}

// P5.1, Rule 3: every place of many programs.
func TestEveryPlace(t *testing.T) {
	d, ends := draw(2), map[int]int{}
	for range 2000 {
		p := anyProgram(t, &d)
		for place := range p.Code {
			ends[look(t, p, anyInput(&d, p.Input), anyState(&d, p, place))]++
		}
	}
	for end := api.EndSteps; end <= api.EndFail; end++ {
		if ends[end] == 0 {
			t.Error(end, ends)
		}
	}
}

// P5.2: the chapter's example, and runs that end in each of the ways there are.
func TestRuns(t *testing.T) {
	for _, x := range []struct {
		lines []string
		input string
		steps int
		path  []int
		end   int
		r1    uint64
		mem   string
	}{
		{[]string{"rb64 0 0 0", "fun", "set r1 5", "halt"}, "", 2, []int{0, 1}, api.EndHalt, 5, ""},
		{[]string{"rb64 0 0 0", "fun", "set r1 5", "halt"}, "", 1, []int{0, 1}, api.EndSteps, 5, ""},
		{[]string{"rb64 0 0 0", "fun", "set r1 5", "halt"}, "", 0, []int{0}, api.EndSteps, 0, ""},
		{[]string{"rb64 0 0 0", "fun", "halt"}, "", 0, []int{0}, api.EndSteps, 0, ""},
		{[]string{"rb64 0 0 0", "fun", "halt"}, "", 1, []int{0}, api.EndHalt, 0, ""},
		{[]string{"rb64 3 0 0", "data 01", "fun", "set r1 513", "save r1 r0 2 1", "halt"}, "", 9, []int{0, 1, 2}, api.EndHalt, 513, "\x01\x01\x02"},
		{[]string{"rb64 3 0 0", "data 01", "fun", "set r1 513", "save r1 r0 2 2", "halt"}, "", 9, []int{0, 1}, api.EndAddress, 513, "\x01\x00\x00"},
		{[]string{"rb64 3 0 0", "data 0102", "fun", "load r1 r0 4 0", "halt"}, "", 9, []int{0}, api.EndAddress, 0, "\x01\x02\x00"},
		{[]string{"rb64 0 0 0", "fun", "set r1 5", "rem r1 r1 r2", "halt"}, "", 9, []int{0, 1}, api.EndDivide, 5, ""},
		{[]string{"rb64 0 0 3", "fun", "input r1 r0 1", "input r1 r1 0", "halt"}, "\x05\x02\x07", 9, []int{0, 1, 2}, api.EndHalt, 7, ""},
		{[]string{"rb64 0 0 3", "fun", "input r1 r0 1", "input r1 r1 0", "halt"}, "\x05\x02", 9, []int{0, 1}, api.EndInput, 2, ""},
		{[]string{"rb64 0 0 0", "fun", "set r1 1", "branch r1 3", "halt", "fail"}, "", 9, []int{0, 1, 3}, api.EndFail, 1, ""},
		{[]string{"rb64 0 0 0", "fun", "branch r1 2", "halt", "fail"}, "", 9, []int{0, 1}, api.EndHalt, 0, ""},
		{[]string{"rb64 0 0 0", "fun", "jump 0"}, "", 3, []int{0, 0, 0, 0}, api.EndSteps, 0, ""},
		{[]string{"rb64 0 0 0", "fun", "back"}, "", 9, []int{0}, api.EndHalt, 0, ""},
		{[]string{"rb64 0 0 0", "fun", "call 1", "halt", "fun", "back"}, "", 9, []int{0}, api.EndStack, 0, ""},
		{[]string{"rb64 0 1 0", "fun", "call 1", "call 1", "halt", "fun", "set r1 8", "back"}, "", 9, []int{0, 3, 4, 1, 3, 4, 2}, api.EndHalt, 8, ""},
		{[]string{"rb64 0 1 0", "fun", "call 1", "halt", "fun", "call 2", "back", "fun", "back"}, "", 9, []int{0, 2}, api.EndStack, 0, ""},
		{[]string{"rb64 0 2 0", "fun", "call 1", "halt", "fun", "call 2", "back", "fun", "back"}, "", 9, []int{0, 2, 4, 3, 1}, api.EndHalt, 0, ""},
		{[]string{"rb64 0 3 0", "fun", "call 0", "halt"}, "", 9, []int{0, 0, 0, 0}, api.EndStack, 0, ""},
	} {
		u, e := Run(program(t, x.lines...), []byte(x.input), x.steps)
		if e != api.OK || !slices.Equal(u.Path, x.path) || u.End != x.end || u.Regs[1] != x.r1 || string(u.Mem) != x.mem {
			t.Error(x, u, e)
		}
	}
}

// P5.2: steps below 0 are none, those above 4096 so many.
func TestSteps(t *testing.T) {
	p := program(t, "rb64 0 0 0", "fun", "set r2 1", "add r1 r1 r2", "jump 1")
	for _, x := range []struct{ steps, want int }{
		{math.MinInt, 0}, {-4097, 0}, {-1, 0}, {0, 0}, {1, 1}, {2, 2}, {64, 64}, {65, 65}, {4095, 4095}, {4096, 4096}, {4097, 4096}, {1 << 40, 4096}, {math.MaxInt, 4096},
	} {
		u, e := Run(p, nil, x.steps)
		if e != api.OK || len(u.Path) != x.want+1 || u.End != api.EndSteps || u.Regs[1] != uint64(x.want/2) {
			t.Error(x, len(u.Path), u.End, u.Regs, e)
		}
	}
}

// P5.2: the last step that is done may be the one that ends the run; the one behind it isn't done.
func TestLastStep(t *testing.T) {
	for _, x := range []struct{ rounds, places, end int }{
		{2046, 4096, api.EndHalt},
		{2047, 4097, api.EndSteps},
	} {
		p := program(t, "rb64 0 0 0", "fun", fmt.Sprint("set r1 ", x.rounds), "set r2 1", "set r3 0", "sub r1 r1 r2", "branch r1 3", "halt")
		for _, steps := range []int{4096, 4097, 5000} {
			u, e := Run(p, nil, steps)
			if e != api.OK || len(u.Path) != x.places || u.End != x.end || u.Regs[1] > 1 {
				t.Error(x, steps, len(u.Path), u.End, u.Regs, e)
			}
		}
	}
	p := program(t, "rb64 0 0 0", "fun", "set r1 2046", "set r2 1", "set r3 0", "sub r1 r1 r2", "branch r1 3", "halt")
	if n, found := Reach(p, nil, 5, 5000); n != 4095 || !found {
		t.Error(n, found)
	}
	if n, found := Reach(p, nil, 5, 4094); n != 0 || found {
		t.Error(n, found)
	}
}

// wrongImages is images that aren't right, by the error that layer 3 is to tell of each.
func wrongImages() map[api.Errno][]api.Image {
	right := func() api.Image {
		return api.Image{Mem: 4, Stack: 2, Input: 2, Data: []byte{1}, Funs: []int{0, 2}, Code: []api.Ins{
			{Op: api.Call, Imm: 1}, {Op: api.Halt}, {Op: api.Load, C: 1}, {Op: api.Back},
		}}
	}
	wrong := map[api.Errno][]api.Image{}
	add := func(e api.Errno, change func(p *api.Image)) {
		p := right()
		change(&p)
		wrong[e] = append(wrong[e], p)
	}
	add(api.ErrRange, func(p *api.Image) { *p = api.Image{} })
	for _, n := range []int{-1, 65, math.MaxInt, math.MinInt} {
		add(api.ErrRange, func(p *api.Image) { p.Mem = n })
		add(api.ErrRange, func(p *api.Image) { p.Stack = n })
		add(api.ErrRange, func(p *api.Image) { p.Input = n })
		add(api.ErrRange, func(p *api.Image) { p.Funs[0] = n })
		add(api.ErrRange, func(p *api.Image) { p.Funs[1] = n })
		add(api.ErrOp, func(p *api.Image) { p.Code[0] = api.Ins{Op: n} })
		add(api.ErrField, func(p *api.Image) { p.Code[2].A = n })
		add(api.ErrField, func(p *api.Image) { p.Code[2].B = n })
		add(api.ErrField, func(p *api.Image) { p.Code[2].C = n })
		add(api.ErrFlow, func(p *api.Image) { p.Code[0].Imm = uint64(n) })
		add(api.ErrFlow, func(p *api.Image) { p.Code[1] = api.Ins{Op: api.Jump, Imm: uint64(n)} })
		add(api.ErrFlow, func(p *api.Image) { p.Code[0] = api.Ins{Op: api.Branch, Imm: uint64(n)} })
	}
	add(api.ErrRange, func(p *api.Image) { p.Data = make([]byte, 5) })
	add(api.ErrRange, func(p *api.Image) { p.Data = make([]byte, 100) })
	add(api.ErrRange, func(p *api.Image) { p.Funs = nil })
	add(api.ErrRange, func(p *api.Image) { p.Funs = []int{0, 0} })
	add(api.ErrRange, func(p *api.Image) { p.Code = nil })
	add(api.ErrRange, func(p *api.Image) { p.Code = make([]api.Ins, 257) })
	add(api.ErrOp, func(p *api.Image) { p.Code[0] = api.Ins{Op: 26} })
	add(api.ErrField, func(p *api.Image) { p.Code[2].C = 0 })
	add(api.ErrField, func(p *api.Image) { p.Code[2].C = 3 })
	add(api.ErrField, func(p *api.Image) { p.Code[2].A = 8 })
	add(api.ErrFlow, func(p *api.Image) { p.Code[0].Imm = 2 })
	add(api.ErrFlow, func(p *api.Image) { p.Code[3] = api.Ins{Op: api.Set} })
	return wrong
}

// refused holds what Run and Reach tell against an error; target 0 would be reached at once without it.
func refused(t *testing.T, p api.Image, input []byte, want api.Errno) {
	t.Helper()
	for _, steps := range []int{-1, 0, 9, math.MaxInt} {
		if u, e := Run(p, input, steps); e != want || !sameTrace(u, api.Trace{}) {
			t.Error(p, input, u, e, want)
		}
		for _, target := range []int{0, 1, -1, math.MinInt} {
			if n, found := Reach(p, input, target, steps); n != 0 || found {
				t.Error(p, input, target, n, found)
			}
		}
	}
}

// P5.2, Rule 1: layer 3's error goes ahead of ErrInput; beside either there is no trace, and nothing is reached.
func TestRefused(t *testing.T) {
	for want, images := range wrongImages() {
		for _, p := range images {
			if _, e := image.Encode(p); e != want {
				t.Fatal(p, e, want)
			}
			refused(t, p, nil, want)
			refused(t, p, make([]byte, 3), want)
		}
	}
	for n := range api.MaxInput + 1 {
		p := program(t, fmt.Sprint("rb64 2 0 ", n), "data 01", "fun", "set r1 1", "halt")
		if u, e := Run(p, make([]byte, n), 9); e != api.OK || u.End != api.EndHalt {
			t.Error(n, u, e)
		}
		refused(t, p, make([]byte, n+1), api.ErrInput)
		refused(t, p, make([]byte, n+300), api.ErrInput)
	}
}

// P5.2: the least number of steps; a target that is 0, that is no place, that is never come to.
func TestReach(t *testing.T) {
	p := program(t, "rb64 0 1 1", "fun", "input r1 r0 0", "call 1", "branch r1 1", "halt", "fail", "fun", "set r2 1", "sub r1 r1 r2", "back")
	for _, x := range []struct {
		input         string
		target, steps int
		n             int
		found         bool
	}{
		{"\x02", 0, 0, 0, true},
		{"\x02", 0, -1, 0, true},
		{"\x02", 0, math.MinInt, 0, true},
		{"\x02", 0, 100, 0, true},
		{"", 0, 100, 0, true},
		{"", 1, 100, 0, false},
		{"\x02", 1, 0, 0, false},
		{"\x02", 1, 1, 1, true},
		{"\x02", 1, 100, 1, true},
		{"\x02", 5, 1, 0, false},
		{"\x02", 5, 2, 2, true},
		{"\x02", 2, 100, 5, true},
		{"\x02", 3, 100, 11, true},
		{"\x02", 3, 11, 11, true},
		{"\x02", 3, 10, 0, false},
		{"\x01", 3, 100, 6, true},
		{"\x02", 3, math.MaxInt, 11, true},
		{"\x02", 4, math.MaxInt, 0, false},
		{"\x02", 8, math.MaxInt, 0, false},
		{"\x02", 9, math.MaxInt, 0, false},
		{"\x02", -1, math.MaxInt, 0, false},
		{"\x02", math.MinInt, 9, 0, false},
		{"\x02", math.MaxInt, 9, 0, false},
	} {
		if n, found := Reach(p, []byte(x.input), x.target, x.steps); n != x.n || found != x.found {
			t.Error(x, n, found)
		}
	}
}

// P5.2, P5.3: many runs against the chapter, step by step too.
func TestManyRuns(t *testing.T) {
	d, ends, long, deep := draw(3), map[int]int{}, 0, 0
	for range 3000 {
		p := anyProgram(t, &d)
		input := anyInput(&d, p.Input)
		steps := int(d.among(0, 1, 5, 20, 64, 200, 4096, 5000)) - d.below(3)
		u, e := Run(p, input, steps)
		v, most := expectedRun(p, input, steps)
		if e != api.OK || !sameTrace(u, v) {
			t.Fatalf("Run(%v, %v, %v): %v %v, not %v", p, input, steps, u, e, v)
		}
		ends[u.End]++
		if len(u.Path) > 64 {
			long++
		}
		if most > 2 {
			deep++
		}
		for target := -2; target < len(p.Code)+2; target++ {
			n, found := Reach(p, input, target, steps)
			at := slices.Index(v.Path, target)
			if found != (at >= 0) || n != max(at, 0) {
				t.Fatal(p, input, steps, target, n, found, at)
			}
		}
	}
	for end := api.EndSteps; end <= api.EndFail; end++ {
		if ends[end] < 10 {
			t.Error(end, ends)
		}
	}
	if long < 100 || deep < 100 {
		t.Error(long, deep)
	}
}

// P5.3: never are more places open than may be; a state that a step ended is ended by it again.
func TestStepsOfRuns(t *testing.T) {
	d, full := draw(4), 0
	for range 1500 {
		p := anyProgram(t, &d)
		input := anyInput(&d, p.Input)
		s, end, path := Start(p), api.EndSteps, []int{0}
		for n := 0; n < 100 && end == api.EndSteps; n++ {
			if s, end = Step(p, input, s); end == api.EndSteps {
				path = append(path, s.Place)
			}
			if len(s.Open) > p.Stack || len(s.Mem) != p.Mem {
				t.Fatal(p, input, s)
			}
			if len(s.Open) == p.Stack {
				full++
			}
		}
		if u, e := Run(p, input, 100); e != api.OK || !sameTrace(u, api.Trace{Path: path, End: end, Regs: s.Regs, Mem: s.Mem}) {
			t.Fatal(p, input, u, e, s, end, path)
		}
		if end == api.EndSteps {
			continue
		}
		for range 3 {
			if u, again := Step(p, input, s); again != end || !same(u, s) {
				t.Fatal(p, input, s, end, u, again)
			}
		}
	}
	if full < 100 {
		t.Error(full)
	}
}

// P5.3: a run of more steps goes on as one of less; what ended stays ended.
func TestMoreSteps(t *testing.T) {
	d, ended := draw(5), 0
	for range 400 {
		p := anyProgram(t, &d)
		input := anyInput(&d, p.Input)
		less, _ := Run(p, input, 0)
		for steps := 1; steps < 40; steps++ {
			more, e := Run(p, input, steps)
			if e != api.OK || len(more.Path) < len(less.Path) || !slices.Equal(more.Path[:len(less.Path)], less.Path) {
				t.Fatal(p, input, steps, less, more)
			}
			if less.End != api.EndSteps && !sameTrace(less, more) {
				t.Fatal(p, input, steps, less, more)
			}
			if more.End == api.EndSteps && len(more.Path) != steps+1 {
				t.Fatal(p, input, steps, more)
			}
			less = more
		}
		if less.End != api.EndSteps {
			ended++
		}
		last, _ := Run(p, input, 4096)
		if !slices.Equal(last.Path[:len(less.Path)], less.Path) || less.End != api.EndSteps && !sameTrace(less, last) {
			t.Fatal(p, input, less, last)
		}
	}
	if ended < 100 {
		t.Error(ended)
	}
}

// Rules 3 and 4: a run changes nothing that it is handed, keeps nothing, and is the same again.
func TestRunIsNew(t *testing.T) {
	d := draw(6)
	for range 300 {
		p := anyProgram(t, &d)
		p.Data, p.Funs = roomy(p.Data), roomy(p.Funs)
		input := roomy(anyInput(&d, p.Input))
		data, funs, code, in := whole(p.Data), whole(p.Funs), whole(p.Code), whole(input)
		u, _ := Run(p, input, 100)
		kept := api.Trace{Path: slices.Clone(u.Path), End: u.End, Regs: u.Regs, Mem: slices.Clone(u.Mem)}
		v, _ := Run(p, input, 100)
		spoil(v.Path)
		spoil(v.Mem)
		Reach(p, input, 1, 100)
		w, _ := Run(p, input, 100)
		if !sameTrace(u, kept) || !sameTrace(w, kept) {
			t.Fatal(p, input, u, kept, w)
		}
		if !slices.Equal(whole(p.Data), data) || !slices.Equal(whole(p.Funs), funs) || !slices.Equal(whole(p.Code), code) || !slices.Equal(whole(input), in) {
			t.Fatal(p, input)
		}
	}
}

// Rule 2: lists that are nil or empty are the same.
func TestEmptyLists(t *testing.T) {
	p := program(t, "rb64 0 1 1", "fun", "call 1", "halt", "fun", "back")
	q := p
	p.Data, q.Data = nil, []byte{}
	u, e := Run(p, nil, 9)
	v, f := Run(q, []byte{}, 9)
	if e != api.OK || f != api.OK || !sameTrace(u, v) {
		t.Error(u, e, v, f)
	}
	for place := range p.Code {
		a, end := Step(p, nil, State{Place: place})
		b, last := Step(q, []byte{}, State{Place: place, Mem: []byte{}, Open: []int{}})
		if end != last || !same(a, b) {
			t.Error(place, a, end, b, last)
		}
	}
}

// wrongStates is states that are of few images.
func wrongStates() []State {
	var all []State
	for _, place := range []int{0, 1, 2, 3, 4, 256, -1, math.MaxInt, math.MinInt} {
		for _, open := range [][]int{nil, {-1}, {math.MaxInt, math.MinInt}, make([]int, 40)} {
			for _, size := range []int{0, 1, 4, 65, 1000} {
				s := State{Place: place, Mem: make([]byte, size), Open: open}
				all = append(all, s)
				s.Regs = [api.Regs]uint64{math.MaxUint64, 1 << 63, 1<<63 - 1, 5, 64, 65, 1 << 32, 1}
				all = append(all, s)
			}
		}
	}
	return all
}

// Rules 3 and 5, P5.1: of what isn't right there is an answer, whatever it is, and what was handed in is as it was.
func TestWrongOnes(t *testing.T) {
	inputs := [][]byte{nil, make([]byte, 2), make([]byte, 300)}
	try := func(p api.Image) {
		Start(p)
		for _, input := range inputs {
			for _, s := range wrongStates() {
				before := copied(s)
				u := s
				for range 4 {
					u, _ = Step(p, input, u)
				}
				if !same(s, before) {
					t.Fatal(p, s, before)
				}
			}
		}
	}
	for _, images := range wrongImages() {
		for _, p := range images {
			try(p)
		}
	}
	try(program(t, "rb64 4 2 2", "fun", "load r0 r1 8 0", "call 1", "halt", "fun", "input r2 r3 0", "back"))
	for op := -1; op <= api.Fail+1; op++ {
		for _, n := range []int{-1, 0, 8, math.MaxInt, math.MinInt} {
			i := api.Ins{Op: op, A: n, B: n, C: n, Imm: uint64(n)}
			p := api.Image{Stack: 99, Funs: []int{n}, Code: []api.Ins{i, {Op: op, Imm: uint64(n)}, {Op: op, C: 8, Imm: uint64(n)}}}
			for place := -1; place < 4; place++ {
				Step(p, inputs[2], State{Place: place, Mem: make([]byte, 9)})
			}
		}
	}
}

// Rule 5: a memory of any size that an image tells is no burden.
func TestStartOfWrongOnes(t *testing.T) {
	for _, n := range []int{-1, 65, 1 << 40, math.MaxInt, math.MinInt} {
		for _, data := range [][]byte{nil, {1}, make([]byte, 300)} {
			if s := Start(api.Image{Mem: n, Data: data}); s.Place != 0 || len(s.Open) != 0 || len(s.Mem) > 64 {
				t.Error(n, len(data), s)
			}
		}
	}
}
