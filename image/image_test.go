package image

import (
	"bytes"
	"math"
	"slices"
	"testing"

	"backreach/api"
	"backreach/code"
)

// The bytes at which the numbers of every image stand.
const (
	memAt   = 5
	stackAt = 6
	inputAt = 7
	dataAt  = 8
)

func halt() api.Ins             { return api.Ins{Op: api.Halt} }
func back() api.Ins             { return api.Ins{Op: api.Back} }
func jump(to uint64) api.Ins    { return api.Ins{Op: api.Jump, Imm: to} }
func branch(to uint64) api.Ins  { return api.Ins{Op: api.Branch, A: 2, Imm: to} }
func call(fun uint64) api.Ins   { return api.Ins{Op: api.Call, Imm: fun} }
func length() api.Ins           { return api.Ins{Op: api.Length, A: 3} }
func repeat(n int) []api.Ins    { return slices.Repeat([]api.Ins{halt()}, n) }
func joined(x ...[]byte) []byte { return bytes.Join(x, nil) }
func turned(b []byte, at int, c byte) []byte {
	b = bytes.Clone(b)
	b[at] = c
	return b
}

// one is the chapter's example: one halt, with all else 0.
func one() api.Image {
	return api.Image{Funs: []int{0}, Code: []api.Ins{halt()}}
}

// many has data, three functions (one of them of one instruction, the last), calls, jumps and branches.
func many() api.Image {
	return api.Image{Mem: 6, Stack: 3, Input: 5, Data: []byte{255, 0, 7}, Funs: []int{0, 5, 9}, Code: []api.Ins{
		call(1), branch(4), call(0), jump(0), {Op: api.Fail},
		{Op: api.Load, A: 1, B: 2, C: 4, Imm: math.MaxUint64}, branch(5), call(2), back(),
		jump(9),
	}}
}

// full has as much of everything as there may be.
func full() api.Image {
	p := api.Image{Mem: 64, Stack: 16, Input: 16, Data: make([]byte, 64), Code: repeat(256)}
	for n := range p.Data {
		p.Data[n] = byte(255 - n)
	}
	for n := range 16 {
		p.Funs = append(p.Funs, n*17)
		p.Code[n*17] = call(uint64(15 - n))
		if n == 15 {
			p.Code[n*17] = jump(255)
		}
	}
	return p
}

func samples() []api.Image {
	late := api.Image{Mem: 1, Data: []byte{9}, Funs: []int{0, 255}, Code: repeat(256)}
	late.Code[3], late.Code[254], late.Code[255] = branch(254), jump(0), jump(255)
	return []api.Image{
		one(), many(), full(), late,
		{Mem: 64, Funs: []int{0}, Code: []api.Ins{branch(0), jump(1)}},
		{Mem: 2, Data: []byte{1, 2}, Stack: 16, Funs: []int{0, 1}, Code: []api.Ins{halt(), back()}},
		{Input: 16, Mem: 3, Data: []byte{0, 0}, Funs: []int{0}, Code: repeat(256)},
	}
}

func encoded(t *testing.T, p api.Image) []byte {
	t.Helper()
	b, e := Encode(p)
	if e != api.OK {
		t.Fatalf("Encode(%v): %v", p, e)
	}
	return b
}

// owners is for each place the number of the function that has it.
func owners(p api.Image) []int {
	own := make([]int, len(p.Code))
	for n, from := range p.Funs {
		for place := from; place < len(own); place++ {
			own[place] = n
		}
	}
	return own
}

// firstLeak is the first place by which p doesn't flow; -1, if it flows.
func firstLeak(p api.Image) int {
	own := owners(p)
	for place, i := range p.Code {
		var next []uint64
		if i.Op != api.Halt && i.Op != api.Jump && i.Op != api.Back && i.Op != api.Fail {
			next = append(next, uint64(place)+1)
		}
		if i.Op == api.Jump || i.Op == api.Branch {
			next = append(next, i.Imm)
		}
		for _, to := range next {
			if to >= uint64(len(own)) || own[to] != own[place] {
				return place
			}
		}
		if i.Op == api.Call && i.Imm >= uint64(len(p.Funs)) {
			return place
		}
	}
	return -1
}

// expected is what the chapter says of bytes, written a second time: the parts ahead of the instructions are told one by one with the byte behind each, and what is wrong of it.
func expected(b []byte) (api.Errno, int) {
	type part struct {
		size  int
		e     api.Errno
		wrong func(x []byte) bool
	}
	pair := func(x []byte) int { return int(x[0])*256 + int(x[1]) }
	above := func(most byte) func([]byte) bool { return func(x []byte) bool { return x[0] > most } }
	var p api.Image
	parts := []part{
		{4, api.ErrForm, func(x []byte) bool { return string(x) != "RB64" }},
		{1, api.ErrForm, func(x []byte) bool { return x[0] != 1 }},
		{1, api.ErrRange, above(64)}, {1, api.ErrRange, above(16)}, {1, api.ErrRange, above(16)},
		{1, api.ErrRange, func(x []byte) bool { return x[0] > b[memAt] }},
	}
	at, count := 0, 0
	for n := 0; n < len(parts); n++ {
		x := parts[n]
		if len(b) < at+x.size {
			return api.ErrShort, len(b)
		}
		if x.wrong(b[at : at+x.size]) {
			return x.e, at
		}
		at += x.size
		switch {
		case n == 5:
			parts = append(parts, part{int(b[dataAt]), 0, func([]byte) bool { return false }},
				part{1, api.ErrRange, func(x []byte) bool { return x[0] < 1 || x[0] > 16 }})
		case n == 7:
			for k := range int(b[at-1]) {
				parts = append(parts, part{2, api.ErrRange, func(x []byte) bool {
					p.Funs = append(p.Funs, pair(x))
					return k == 0 && pair(x) != 0 || k > 0 && pair(x) <= p.Funs[k-1]
				}})
			}
			parts = append(parts, part{2, api.ErrRange, func(x []byte) bool {
				count = pair(x)
				return count < 1 || count > 256 || count <= p.Funs[len(p.Funs)-1]
			}})
		}
	}
	first := at
	for range count {
		i, e, off := code.Get(b[at:])
		if e != api.OK {
			return e, at + off
		}
		p.Code = append(p.Code, i)
		at += 12
	}
	if at < len(b) {
		return api.ErrMore, at
	}
	if place := firstLeak(p); place >= 0 {
		return api.ErrFlow, first + 12*place
	}
	return api.OK, 0
}

// look holds what Decode tells of b against the chapter: an image whose bytes are b, or nothing but the first error and its place.
func look(t *testing.T, b []byte) {
	t.Helper()
	p, e, at := Decode(b)
	if f, to := expected(b); e != f || at != to {
		t.Fatalf("Decode(% x): %v at %v, not %v at %v", b, e, at, f, to)
	}
	if e != api.OK {
		if !Same(p, api.Image{}) {
			t.Fatalf("Decode(% x): %v beside error %v", b, p, e)
		}
		if at < 0 || at > len(b) {
			t.Fatalf("Decode(% x): a fault at %v", b, at)
		}
		return
	}
	if c, f := Encode(p); f != api.OK || !bytes.Equal(b, c) {
		t.Fatalf("Encode of what was decoded of % x: % x, %v", b, c, f)
	}
}

// P3.1: the chapter's example.
func TestExample(t *testing.T) {
	want := append([]byte{0x52, 0x42, 0x36, 0x34, 1, 0, 0, 0, 0, 1, 0, 0, 0, 1}, make([]byte, 12)...)
	if b, e := Encode(one()); e != api.OK || !bytes.Equal(b, want) {
		t.Errorf("Encode: % x, %v", b, e)
	}
	if p, e, at := Decode(want); e != api.OK || at != 0 || !Same(p, one()) {
		t.Errorf("Decode: %v, %v, %v", p, e, at)
	}
}

// P3.1, P3.2: the parts in their order, each number of two bytes with the higher one first.
func TestLayout(t *testing.T) {
	want := joined([]byte("RB64"), []byte{1, 6, 3, 5, 3, 255, 0, 7, 3, 0, 0, 0, 5, 0, 9, 0, 10})
	for _, i := range many().Code {
		x, _ := code.Put(i)
		want = append(want, x...)
	}
	if b := encoded(t, many()); !bytes.Equal(b, want) {
		t.Errorf("many: % x", b)
	}
	b := encoded(t, full())
	if len(b) != 9+64+1+32+2+256*12 || !bytes.Equal(b[5:9], []byte{64, 16, 16, 64}) {
		t.Errorf("full: %v bytes, % x", len(b), b[:9])
	}
	if !bytes.Equal(b[9:73], full().Data) || b[73] != 16 || !bytes.Equal(b[74:78], []byte{0, 0, 0, 17}) || !bytes.Equal(b[104:108], []byte{0, 255, 1, 0}) {
		t.Errorf("full: % x", b[9:108])
	}
	if p, e, at := Decode(b); e != api.OK || at != 0 || p.Funs[15] != 255 || len(p.Code) != 256 || p.Data[63] != 192 {
		t.Errorf("full: %v, %v at %v", p, e, at)
	}
}

// P3.4: what is encoded is decoded as it was; the samples stand at the edges that the chapter names.
func TestRoundTrip(t *testing.T) {
	for n, p := range samples() {
		b := encoded(t, p)
		q, e, at := Decode(b)
		if e != api.OK || at != 0 || !same(p, q) {
			t.Errorf("%v: %v, %v at %v", n, q, e, at)
		}
		look(t, b)
	}
}

// same is Same, field by field and element by element.
func same(p, q api.Image) bool {
	if p.Mem != q.Mem || p.Stack != q.Stack || p.Input != q.Input || len(p.Data) != len(q.Data) || len(p.Funs) != len(q.Funs) || len(p.Code) != len(q.Code) {
		return false
	}
	for n := range p.Data {
		if p.Data[n] != q.Data[n] {
			return false
		}
	}
	for n := range p.Funs {
		if p.Funs[n] != q.Funs[n] {
			return false
		}
	}
	for n, i := range p.Code {
		j := q.Code[n]
		if i.Op != j.Op || i.A != j.A || i.B != j.B || i.C != j.C || i.Imm != j.Imm {
			return false
		}
	}
	return true
}

// P3.1: each number, count and place, on both sides of its edges.
func TestEncodeRange(t *testing.T) {
	far := []int{math.MinInt, -256, -1, 65, 256, 257, 256 + 4, 1 << 32, math.MaxInt}
	right := func(name string, p api.Image) {
		if b, e := Encode(p); e != api.OK || len(b) == 0 {
			t.Errorf("%v: %v", name, e)
		}
	}
	wrong := func(name string, p api.Image) {
		if b, e := Encode(p); e != api.ErrRange || len(b) != 0 {
			t.Errorf("%v: % x, %v", name, b, e)
		}
	}
	for _, x := range far {
		p, q, r := one(), one(), one()
		p.Mem, q.Stack, r.Input = x, x, x
		wrong("Mem", p)
		wrong("Stack", q)
		wrong("Input", r)
		for _, funs := range [][]int{{x}, {0, x}, {x, 1}, {0, 1, x}, {0, x, 2}} {
			p := one()
			p.Code, p.Funs = repeat(3), funs
			wrong("Funs", p)
		}
	}
	for x := range 66 {
		p, q, r := one(), one(), one()
		p.Mem, q.Stack, r.Input = x, x, x
		told := map[bool]func(string, api.Image){true: right, false: wrong}
		told[x <= 64]("Mem", p)
		told[x <= 16]("Stack", q)
		told[x <= 16]("Input", r)
		p.Mem, p.Data = 64, make([]byte, x)
		told[x <= 64]("Data", p)
		p.Mem, p.Data = 7, make([]byte, x)
		told[x <= 7]("Data of 7", p)
		s := one()
		s.Code, s.Funs = repeat(66), nil
		for n := range x {
			s.Funs = append(s.Funs, n)
		}
		told[x >= 1 && x <= 16]("Funs", s)
	}
	for _, x := range []int{0, 1, 2, 3, 255, 256, 257, 258, 512, 65536, 65537} {
		told := map[bool]func(string, api.Image){true: right, false: wrong}
		p, q := one(), one()
		p.Code, q.Code, q.Funs = repeat(x), repeat(x), []int{0, 2}
		told[x >= 1 && x <= 256]("Code", p)
		told[x >= 3 && x <= 256]("Code behind 2", q)
	}
	for _, funs := range [][]int{{1}, {2}, {0, 0}, {0, 2, 2}, {0, 2, 1}, {0, 3}, {0, 1, 3}, {0, 1, 2, 0}, {-1, 0}, {0, math.MaxInt}, {}} {
		p := one()
		p.Code, p.Funs = repeat(3), funs
		wrong("Funs", p)
	}
}

// P3.1: layer 2's error of the first instruction that is wrong.
func TestEncodeInstruction(t *testing.T) {
	for n, i := range []struct {
		i api.Ins
		e api.Errno
	}{
		{api.Ins{Op: 26}, api.ErrOp}, {api.Ins{Op: -1}, api.ErrOp}, {api.Ins{Op: 256 + api.Set}, api.ErrOp}, {api.Ins{Op: 26, A: 9}, api.ErrOp},
		{api.Ins{Op: api.Halt, A: 1}, api.ErrField}, {api.Ins{Op: api.Copy, B: 8}, api.ErrField}, {api.Ins{Op: api.Load, C: 3}, api.ErrField},
		{api.Ins{Op: api.Back, Imm: 1}, api.ErrField}, {api.Ins{Op: api.Jump, A: -1}, api.ErrField}, {api.Ins{Op: api.Jump, C: 1, Imm: 99}, api.ErrField},
	} {
		for place := range many().Code {
			p := many()
			p.Code[place] = i.i
			if b, e := Encode(p); e != i.e || len(b) != 0 {
				t.Errorf("%v at %v: % x, %v", n, place, b, e)
			}
		}
	}
}

// P3.1: of several faults the first is told: numbers ahead of instructions, an instruction ahead of those behind it, and all ahead of what doesn't flow.
func TestEncodeOrder(t *testing.T) {
	op, field := api.Ins{Op: 99}, api.Ins{Op: api.Halt, B: 1}
	for n, x := range []struct {
		p api.Image
		e api.Errno
	}{
		{api.Image{}, api.ErrRange},
		{api.Image{Mem: 65, Funs: []int{0}, Code: []api.Ins{op}}, api.ErrRange},
		{api.Image{Input: 17, Funs: []int{0}, Code: []api.Ins{length()}}, api.ErrRange},
		{api.Image{Funs: []int{0, 1}, Code: []api.Ins{field}}, api.ErrRange},
		{api.Image{Funs: []int{0}, Code: append(repeat(256), op)}, api.ErrRange},
		{api.Image{Funs: []int{0}, Code: []api.Ins{op, field}}, api.ErrOp},
		{api.Image{Funs: []int{0}, Code: []api.Ins{field, op}}, api.ErrField},
		{api.Image{Funs: []int{0}, Code: []api.Ins{jump(7), call(9), op}}, api.ErrOp},
		{api.Image{Funs: []int{0}, Code: []api.Ins{jump(7), field, length()}}, api.ErrField},
		{api.Image{Funs: []int{0}, Code: []api.Ins{jump(7), halt(), length()}}, api.ErrFlow},
	} {
		if b, e := Encode(x.p); e != x.e || len(b) != 0 {
			t.Errorf("%v: % x, %v", n, b, e)
		}
	}
}

// P3.1, P3.2: each way not to flow, in each function, and the nearest that flows beside it.
func TestFlow(t *testing.T) {
	const all = math.MaxUint64
	for n, x := range []struct {
		place int
		i     api.Ins
		flows bool
	}{
		{0, jump(0), true}, {0, jump(1), true}, {0, jump(2), false}, {0, jump(3), false}, {0, jump(all), false}, {0, jump(1 << 32), false}, {1, jump(256), false},
		{2, jump(1), false}, {2, jump(2), true}, {2, jump(3), true}, {2, jump(4), false}, {2, branch(0), false}, {2, branch(1), false}, {2, branch(3), true},
		{2, branch(4), false}, {2, branch(all), false}, {2, branch(1<<63 + 2), false},
		{4, jump(3), false}, {4, jump(4), true}, {4, jump(5), false}, {4, branch(4), false}, {4, call(0), false}, {4, length(), false}, {4, halt(), true}, {4, back(), true},
		{1, length(), false}, {1, branch(0), false}, {1, call(0), false}, {1, api.Ins{Op: api.Set}, false}, {1, api.Ins{Op: api.Save, C: 8}, false}, {1, api.Ins{Op: api.Fail}, true},
		{3, length(), false}, {3, branch(2), false}, {3, call(2), false}, {3, jump(2), true},
		{0, call(0), true}, {0, call(1), true}, {0, call(2), true}, {0, call(3), false}, {0, call(256), false}, {2, call(1), true}, {2, call(1 << 32), false}, {2, call(all), false},
	} {
		p := api.Image{Funs: []int{0, 2, 4}, Code: repeat(5)}
		b := encoded(t, p)
		head := len(b) - 60
		p.Code[x.place] = x.i
		put, _ := code.Put(x.i)
		copy(b[head+12*x.place:], put)
		e, at := api.ErrFlow, head+12*x.place
		if x.flows {
			e, at = api.OK, 0
		}
		if c, f := Encode(p); f != e || (f == api.OK) != bytes.Equal(b, c) || f != api.OK && len(c) != 0 {
			t.Errorf("%v: Encode: % x, %v", n, c, f)
		}
		if q, f, to := Decode(b); f != e || to != at || same(p, q) != x.flows {
			t.Errorf("%v: Decode: %v, %v at %v", n, q, f, to)
		}
	}
}

// P3.1, P3.2: every operation that goes on needs one behind it in its function, and no other does.
func TestFlowOfAll(t *testing.T) {
	for op := range 26 {
		i := api.Ins{Op: op}
		if op == api.Load || op == api.Save {
			i.C = 1
		}
		goes := op != api.Halt && op != api.Jump && op != api.Back && op != api.Fail
		for _, funs := range [][]int{{0}, {0, 1}} {
			p := api.Image{Funs: funs, Code: []api.Ins{i, halt()}}
			want := api.OK
			if goes && len(funs) == 2 {
				want = api.ErrFlow
			}
			if _, e := Encode(p); e != want {
				t.Errorf("%v in %v: %v", op, funs, e)
			}
		}
	}
}

// P3.2: bytes that end within each part, or between two, are told at their end; so are such ends behind bytes that are right alone.
func TestDecodeShort(t *testing.T) {
	for _, p := range samples() {
		b := encoded(t, p)
		for n := range b {
			if q, e, at := Decode(b[:n:n]); e != api.ErrShort || at != n || !Same(q, api.Image{}) {
				t.Fatalf("%v of %v bytes: %v, %v at %v", n, len(b), q, e, at)
			}
		}
	}
	for _, b := range [][]byte{nil, {}, []byte("X"), []byte("RBX"), {0, 0, 0}} {
		if _, e, at := Decode(b); e != api.ErrShort || at != len(b) {
			t.Errorf("% x: %v at %v", b, e, at)
		}
	}
	b := encoded(t, one())
	b[14] = 99
	if _, e, at := Decode(b[:25]); e != api.ErrShort || at != 25 {
		t.Errorf("an instruction that is wrong and short: %v at %v", e, at)
	}
	if _, e, at := Decode(b); e != api.ErrOp || at != 14 {
		t.Errorf("one that is wrong: %v at %v", e, at)
	}
}

// P3.2: places and errors, written out by hand.
func TestDecodeWrong(t *testing.T) {
	b := encoded(t, many())
	funs, count, first := 12, 19, 21
	for n, x := range []struct {
		b  []byte
		e  api.Errno
		at int
	}{
		{turned(b, 0, 'r'), api.ErrForm, 0}, {turned(b, 3, '5'), api.ErrForm, 0}, {[]byte("rb64"), api.ErrForm, 0},
		{turned(b, 4, 0), api.ErrForm, 4}, {turned(b, 4, 2), api.ErrForm, 4}, {turned(b, 4, 255), api.ErrForm, 4},
		{turned(b, memAt, 65), api.ErrRange, memAt}, {turned(b, memAt, 255), api.ErrRange, memAt}, {turned(b, stackAt, 17), api.ErrRange, stackAt},
		{turned(b, inputAt, 17), api.ErrRange, inputAt}, {turned(b, dataAt, 7), api.ErrRange, dataAt}, {turned(b, memAt, 2), api.ErrRange, dataAt},
		{turned(b, funs, 0), api.ErrRange, funs}, {turned(b, funs, 17), api.ErrRange, funs},
		{turned(b, funs+1, 1), api.ErrRange, funs + 1}, {turned(b, funs+2, 1), api.ErrRange, funs + 1},
		{turned(b, funs+4, 0), api.ErrRange, funs + 3}, {turned(b, funs+4, 9), api.ErrRange, funs + 5}, {turned(b, funs+6, 5), api.ErrRange, funs + 5},
		{turned(b, funs+3, 1), api.ErrRange, funs + 5}, {turned(b, funs+5, 1), api.ErrRange, count}, {turned(b, funs+5, 255), api.ErrRange, count},
		{turned(b, funs+6, 10), api.ErrRange, count}, {turned(b, funs+6, 255), api.ErrRange, count},
		{turned(b, count+1, 0), api.ErrRange, count}, {turned(b, count+1, 9), api.ErrRange, count}, {turned(b, count, 1), api.ErrRange, count},
		{turned(turned(b, count, 1), count+1, 0), api.ErrShort, len(b)}, {turned(turned(b, count, 1), count+1, 1), api.ErrRange, count},
		{turned(b, first, 26), api.ErrOp, first}, {turned(b, first+1, 1), api.ErrField, first + 1}, {turned(b, first+2, 1), api.ErrField, first + 2},
		{turned(b, first+3, 1), api.ErrField, first + 3}, {turned(b, first+59, 1), api.ErrField, first + 52}, {turned(b, first+63, 3), api.ErrField, first + 63},
		{turned(b, first+108, 26), api.ErrOp, first + 108},
		{joined(b, []byte{0}), api.ErrMore, len(b)}, {joined(b, b), api.ErrMore, len(b)},
		{turned(b, first+11, 3), api.ErrFlow, first}, {turned(b, first+4, 1), api.ErrFlow, first}, {turned(b, first+23, 5), api.ErrFlow, first + 12},
		{turned(b, first+119, 8), api.ErrFlow, first + 108},
	} {
		if p, e, at := Decode(x.b); e != x.e || at != x.at || !Same(p, api.Image{}) {
			t.Errorf("%v: %v, %v at %v", n, p, e, at)
		}
	}
}

// P3.2: of several faults the one most to the left, but bytes that are left and then what doesn't flow behind all.
func TestDecodeOrder(t *testing.T) {
	b := encoded(t, many())
	first := 21
	faults := []struct {
		at int
		c  byte
	}{{1, 0}, {4, 9}, {memAt, 77}, {stackAt, 99}, {inputAt, 50}, {dataAt, 60}, {12, 0}, {14, 2}, {16, 0}, {19, 9}, {first, 200}, {first + 13, 8}, {first + 24, 77}}
	c := joined(b, []byte{1, 2, 3})
	c[first+11] = 9
	if _, e, at := Decode(c); e != api.ErrMore || at != len(b) {
		t.Errorf("more, and no flow: %v at %v", e, at)
	}
	if _, e, at := Decode(c[:len(b)]); e != api.ErrFlow || at != first {
		t.Errorf("no flow: %v at %v", e, at)
	}
	for _, f := range slices.Backward(faults) {
		c[f.at] = f.c
		_, e, at := Decode(c)
		if g, to := expected(c); e != g || at != to || at > f.at || at < f.at-2 {
			t.Errorf("from %v on: %v at %v", f.at, e, at)
		}
	}
	d := turned(turned(b, first+23, 9), first+119, 0)
	if _, e, at := Decode(d); e != api.ErrFlow || at != first+12 {
		t.Errorf("two that don't flow: %v at %v", e, at)
	}
}

// P3.2, P3.4: every byte of the samples' heads and first instructions turned into every other; what is decoded is encoded as it was.
func TestDecodeTurned(t *testing.T) {
	for _, p := range samples() {
		b := encoded(t, p)
		for at := range min(len(b), 160) {
			for c := range 256 {
				look(t, turned(b, at, byte(c)))
			}
		}
	}
}

// draw is a row of numbers that looks like chance, the same each time.
type draw uint64

func (d *draw) below(n int) int {
	*d = *d*6364136223846793005 + 1442695040888963407
	return int(uint64(*d) >> 33 % uint64(n))
}

// P3.2, P3.4: several bytes turned at once, bytes left out, and bytes put in.
func TestDecodeMany(t *testing.T) {
	d := draw(1)
	for _, p := range samples()[:2] {
		b := encoded(t, p)
		for range 60000 {
			c := bytes.Clone(b)
			for range 1 + d.below(3) {
				c[d.below(len(c))] = byte(d.below(256) >> d.below(8))
			}
			switch at := d.below(len(c)); d.below(4) {
			case 0:
				c = slices.Delete(c, at, at+1)
			case 1:
				c = slices.Insert(c, at, byte(d.below(30)))
			}
			look(t, c)
		}
	}
}

// some is an image whose instructions lead to places near by, so that it often is right.
func some(d *draw) api.Image {
	p := api.Image{Mem: d.below(65), Stack: d.below(17), Input: d.below(17), Funs: []int{0}}
	p.Data = make([]byte, d.below(p.Mem+1))
	for n := range 1 + d.below(6) {
		if n > 0 && d.below(3) == 0 {
			p.Funs = append(p.Funs, n)
		}
		p.Code = append(p.Code, []api.Ins{halt(), back(), jump(uint64(d.below(5))), branch(uint64(d.below(5))), call(uint64(d.below(3))), length(), {Op: api.Fail}}[d.below(7)])
	}
	return p
}

// P3.1, P3.4: an image is encoded just if it flows; what is encoded is decoded as it was; and in what is right no instruction leads out of its function but by a call, or back.
func TestEncodeMany(t *testing.T) {
	d, kept := draw(7), 0
	for range 60000 {
		p := some(&d)
		b, e := Encode(p)
		if leak := firstLeak(p); (leak >= 0) != (e == api.ErrFlow) || leak < 0 && e != api.OK {
			t.Fatalf("Encode(%v): %v, but %v", p, e, leak)
		}
		if e != api.OK {
			continue
		}
		kept++
		if q, f, at := Decode(b); f != api.OK || at != 0 || !same(p, q) {
			t.Fatalf("Decode of what was encoded of %v: %v, %v at %v", p, q, f, at)
		}
	}
	if kept < 5000 {
		t.Errorf("only %v were right", kept)
	}
}

// P3.3: each place of the samples, and places that none has.
func TestFun(t *testing.T) {
	for n, p := range samples() {
		for place, own := range owners(p) {
			if got := Fun(p, place); got != own {
				t.Errorf("sample %v: Fun of %v is %v, not %v", n, place, got, own)
			}
		}
		for _, place := range []int{math.MinInt, -256, -1, len(p.Code), len(p.Code) + 1, 256, 300, math.MaxInt} {
			if place >= len(p.Code) || place < 0 {
				if got := Fun(p, place); got != -1 {
					t.Errorf("sample %v: Fun of %v is %v", n, place, got)
				}
			}
		}
	}
	for place, own := range []int{0, 0, 0, 0, 0, 1, 1, 1, 1, 2, -1} {
		if got := Fun(many(), place); got != own {
			t.Errorf("Fun of %v is %v, not %v", place, got, own)
		}
	}
}

// P3.3: of images that aren't right nothing more than an end is promised; places that no function could have are none's there too.
func TestFunOfWrong(t *testing.T) {
	for _, p := range []api.Image{
		{}, {Funs: []int{0}}, {Code: repeat(3)}, {Funs: []int{-5, math.MaxInt}, Code: repeat(3)}, {Funs: []int{math.MinInt}, Code: repeat(3)},
		{Funs: []int{2, 1, 0}, Code: repeat(3)}, {Funs: []int{9}, Code: repeat(3)},
	} {
		for _, place := range []int{math.MinInt, -5, -1, 3, 9, math.MaxInt} {
			if got := Fun(p, place); got != -1 {
				t.Errorf("%v: Fun of %v is %v", p, place, got)
			}
		}
		for place := range 3 {
			if got := Fun(p, place); got < -1 || got >= len(p.Funs) {
				t.Errorf("%v: Fun of %v is %v", p, place, got)
			}
		}
	}
}

// P3.3: images that differ in one field alone, in one element of a list, or in its length.
func TestSame(t *testing.T) {
	for n, turn := range []func(p *api.Image){
		func(p *api.Image) { p.Mem++ }, func(p *api.Image) { p.Stack++ }, func(p *api.Image) { p.Input++ },
		func(p *api.Image) { p.Data[0]++ }, func(p *api.Image) { p.Data[2]-- }, func(p *api.Image) { p.Data = p.Data[:2] }, func(p *api.Image) { p.Data = append(p.Data, 0) },
		func(p *api.Image) { p.Data = nil },
		func(p *api.Image) { p.Funs[0]-- }, func(p *api.Image) { p.Funs[2]-- }, func(p *api.Image) { p.Funs = p.Funs[:2] }, func(p *api.Image) { p.Funs = append(p.Funs, 10) },
		func(p *api.Image) { p.Funs = nil },
		func(p *api.Image) { p.Code[0].Op++ }, func(p *api.Image) { p.Code[9].A++ }, func(p *api.Image) { p.Code[4].B++ }, func(p *api.Image) { p.Code[5].C = 8 },
		func(p *api.Image) { p.Code[5].Imm-- }, func(p *api.Image) { p.Code[5].Imm -= 1 << 32 }, func(p *api.Image) { p.Code = p.Code[:9] },
		func(p *api.Image) { p.Code = append(p.Code, halt()) }, func(p *api.Image) { p.Code = nil },
	} {
		p := many()
		turn(&p)
		if Same(p, many()) || Same(many(), p) || !Same(p, p) {
			t.Errorf("%v", n)
		}
	}
	for n, p := range samples() {
		for m, q := range samples() {
			if Same(p, q) != (n == m) {
				t.Errorf("samples %v and %v", n, m)
			}
		}
	}
	empty := api.Image{Data: []byte{}, Funs: []int{}, Code: []api.Ins{}}
	if !Same(api.Image{}, empty) || !Same(empty, api.Image{}) {
		t.Error("empty lists mean the same as none")
	}
	if p, q := many(), many(); !Same(p, q) {
		t.Error("many")
	} else if p.Data = append(make([]byte, 0, 99), p.Data...); !Same(p, q) {
		t.Error("spare room plays no part")
	}
}

// Rule 2: an image without Data is encoded the same whether its list is nil or empty.
func TestEmptyData(t *testing.T) {
	p := one()
	p.Data = []byte{}
	if !bytes.Equal(encoded(t, p), encoded(t, one())) {
		t.Error("empty Data")
	}
}

// Rule 3: what is handed in stays as it was, its spare room too, and answers are new memory.
func TestMemory(t *testing.T) {
	p := many()
	data, funs, ins := append(p.Data, 90, 91), append(p.Funs, 92, 93), append(p.Code, call(94), call(95))
	wasData, wasFuns, wasIns := slices.Clone(data), slices.Clone(funs), slices.Clone(ins)
	p.Data, p.Funs, p.Code = data[:3], funs[:3], ins[:10]
	b := encoded(t, p)
	if Fun(p, 3) != 0 || !Same(p, many()) {
		t.Error("the image was changed")
	}
	if !bytes.Equal(data, wasData) || !slices.Equal(funs, wasFuns) || !slices.Equal(ins, wasIns) {
		t.Error("lists were changed")
	}
	c := encoded(t, p)
	c[9]++
	if bytes.Equal(b, c) || p.Data[0] != 255 {
		t.Error("two answers share memory, or one shares the image's")
	}
	room := append(bytes.Clone(b), 77, 78)
	was := bytes.Clone(room)
	q, _, _ := Decode(room[:len(b)])
	r, _, _ := Decode(room[:len(b)])
	q.Data[1], q.Funs[1], q.Code[1].A = 5, 6, 7
	_ = append(append(q.Data, 1), 2)
	if !bytes.Equal(room, was) || !Same(r, many()) {
		t.Error("what is decoded shares memory")
	}
	clear(room)
	if !Same(r, many()) {
		t.Error("bytes that were handed in were kept")
	}
}
