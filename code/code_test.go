package code

import (
	"bytes"
	"math"
	"slices"
	"strings"
	"testing"

	"backreach/api"
)

const all = math.MaxUint64

// chapter is what the document's table names for each operation, by its name: r is a register, w a width, n a number, - nothing; A, B, C and Imm in this order.
const chapter = `halt ---- set r--n copy rr-- add rrr- sub rrr- mul rrr- div rrr- rem rrr- and rrr- or rrr- xor rrr- shl rrr- shr rrr-
sar rrr- same rrr- less rrr- below rrr- load rrwn save rrwn input rr-n length r--- jump ---n branch r--n call ---n back ---- fail ----`

// names and parts are what the operations are called and what each has, by their numbers.
var names, parts = told()

func told() (names, parts []string) {
	words := strings.Fields(chapter)
	for n := 0; n < len(words); n += 2 {
		names, parts = append(names, words[n]), append(parts, words[n+1])
	}
	return names, parts
}

// numbers are api's, in the order of the chapter above.
func numbers() []int {
	return []int{
		api.Halt, api.Set, api.Copy, api.Add, api.Sub, api.Mul, api.Div, api.Rem, api.And, api.Or, api.Xor, api.Shl, api.Shr,
		api.Sar, api.Same, api.Less, api.Below, api.Load, api.Save, api.Input, api.Length, api.Jump, api.Branch, api.Call, api.Back, api.Fail,
	}
}

// none are numbers that are no operation; some would be one if they were cut to a byte.
func none() []int {
	return []int{math.MinInt, -256, -255, -26, -2, -1, 26, 27, 32, 127, 128, 255, 256, 256 + api.Add, 512, math.MaxInt32 + 1, math.MaxInt}
}

// samples are numbers for a part, right and wrong ones; some would be right if they were cut to a byte.
func samples() []int {
	return []int{math.MinInt, -256, -255, -8, -1, 0, 1, 2, 3, 4, 5, 6, 7, 8, 9, 16, 64, 128, 255, 256, 257, 260, 264, 1 << 32, math.MaxInt}
}

func wide() []uint64 {
	return []uint64{0, 1, 5, 255, 256, 0x0102030405060708, 1 << 31, 1 << 32, 1<<56 + 2, 1 << 63, all - 1, all}
}

// may tells whether a part may be x.
func may(part byte, x int) bool {
	switch part {
	case 'r':
		return x >= 0 && x <= 7
	case 'w':
		return slices.Contains([]int{1, 2, 4, 8}, x)
	}
	return x == 0
}

// expected is the error of an instruction, and the byte at which the part that is wrong begins.
func expected(i api.Ins) (api.Errno, int) {
	if i.Op < 0 || i.Op > 25 {
		return api.ErrOp, 0
	}
	for n, x := range []int{i.A, i.B, i.C} {
		if !may(parts[i.Op][n], x) {
			return api.ErrField, n + 1
		}
	}
	if parts[i.Op][3] != 'n' && i.Imm != 0 {
		return api.ErrField, 4
	}
	return api.OK, 0
}

func spelled(op, a, b, c byte, imm uint64) []byte {
	return []byte{
		op, a, b, c, byte(imm >> 56), byte(imm >> 48), byte(imm >> 40), byte(imm >> 32),
		byte(imm >> 24), byte(imm >> 16), byte(imm >> 8), byte(imm),
	}
}

// checkPut holds Put's answer against the chapter.
func checkPut(t *testing.T, i api.Ins) {
	t.Helper()
	e, _ := expected(i)
	var want []byte
	if e == api.OK {
		want = spelled(byte(i.Op), byte(i.A), byte(i.B), byte(i.C), i.Imm)
	}
	if b, f := Put(i); !bytes.Equal(b, want) || f != e {
		t.Fatal("put", i, b, f, "not", want, e)
	}
}

// checkGet holds Get's answer against the chapter.
func checkGet(t *testing.T, op, a, b, c byte, imm uint64) {
	t.Helper()
	want := api.Ins{Op: int(op), A: int(a), B: int(b), C: int(c), Imm: imm}
	e, at := expected(want)
	if e != api.OK {
		want = api.Ins{}
	}
	x := spelled(op, a, b, c, imm)
	if i, f, n := Get(x); i != want || f != e || n != at {
		t.Fatal("get", x, i, f, n, "not", want, e, at)
	}
}

// P2.1: the chapter's example, both ways.
func TestExample(t *testing.T) {
	i := api.Ins{Op: api.Set, A: 1, Imm: 5}
	x := []byte{1, 1, 0, 0, 0, 0, 0, 0, 0, 0, 0, 5}
	if b, e := Put(i); !bytes.Equal(b, x) || e != api.OK {
		t.Error(b, e)
	}
	if j, e, at := Get(x); j != i || e != api.OK || at != 0 {
		t.Error(j, e, at)
	}
}

// P2.1: of each operation, what the table names for it, each part in turn at its edges and beside them.
func TestPut(t *testing.T) {
	for op, has := range parts {
		base := api.Ins{Op: op}
		if has[2] == 'w' {
			base.C = 4
		}
		if e, _ := expected(base); e != api.OK {
			t.Fatal("base", base)
		}
		for _, x := range samples() {
			a, b, c := base, base, base
			a.A, b.B, c.C = x, x, x
			for _, i := range []api.Ins{a, b, c} {
				checkPut(t, i)
			}
		}
		for _, x := range wide() {
			i := base
			i.Imm = x
			checkPut(t, i)
		}
	}
}

// P2.1: all parts together.
func TestPutTogether(t *testing.T) {
	for op := -1; op <= 26; op++ {
		for _, a := range samples() {
			for _, b := range samples() {
				for _, c := range samples() {
					for _, imm := range []uint64{0, 1, all} {
						checkPut(t, api.Ins{Op: op, A: a, B: b, C: c, Imm: imm})
					}
				}
			}
		}
	}
}

// P2.1: as plain bytes, the operations at both ends, registers 0 and 7, all widths, all bits of Imm.
func TestPutPlain(t *testing.T) {
	for _, c := range []struct {
		i    api.Ins
		want []byte
	}{
		{api.Ins{Op: api.Halt}, []byte{0, 0, 0, 0, 0, 0, 0, 0, 0, 0, 0, 0}},
		{api.Ins{Op: api.Fail}, []byte{25, 0, 0, 0, 0, 0, 0, 0, 0, 0, 0, 0}},
		{api.Ins{Op: api.Back}, []byte{24, 0, 0, 0, 0, 0, 0, 0, 0, 0, 0, 0}},
		{api.Ins{Op: api.Set, A: 0, Imm: 0x0102030405060708}, []byte{1, 0, 0, 0, 1, 2, 3, 4, 5, 6, 7, 8}},
		{api.Ins{Op: api.Set, A: 7, Imm: all}, []byte{1, 7, 0, 0, 255, 255, 255, 255, 255, 255, 255, 255}},
		{api.Ins{Op: api.Copy, A: 7, B: 0}, []byte{2, 7, 0, 0, 0, 0, 0, 0, 0, 0, 0, 0}},
		{api.Ins{Op: api.Add, A: 0, B: 0, C: 0}, []byte{3, 0, 0, 0, 0, 0, 0, 0, 0, 0, 0, 0}},
		{api.Ins{Op: api.Below, A: 7, B: 7, C: 7}, []byte{16, 7, 7, 7, 0, 0, 0, 0, 0, 0, 0, 0}},
		{api.Ins{Op: api.Load, A: 1, B: 2, C: 1, Imm: 1 << 63}, []byte{17, 1, 2, 1, 128, 0, 0, 0, 0, 0, 0, 0}},
		{api.Ins{Op: api.Load, A: 7, B: 7, C: 2}, []byte{17, 7, 7, 2, 0, 0, 0, 0, 0, 0, 0, 0}},
		{api.Ins{Op: api.Save, A: 0, B: 7, C: 4, Imm: 256}, []byte{18, 0, 7, 4, 0, 0, 0, 0, 0, 0, 1, 0}},
		{api.Ins{Op: api.Save, A: 0, B: 0, C: 8, Imm: all}, []byte{18, 0, 0, 8, 255, 255, 255, 255, 255, 255, 255, 255}},
		{api.Ins{Op: api.Input, A: 3, B: 4, Imm: 5}, []byte{19, 3, 4, 0, 0, 0, 0, 0, 0, 0, 0, 5}},
		{api.Ins{Op: api.Length, A: 7}, []byte{20, 7, 0, 0, 0, 0, 0, 0, 0, 0, 0, 0}},
		{api.Ins{Op: api.Jump, Imm: all}, []byte{21, 0, 0, 0, 255, 255, 255, 255, 255, 255, 255, 255}},
		{api.Ins{Op: api.Branch, A: 6, Imm: 9}, []byte{22, 6, 0, 0, 0, 0, 0, 0, 0, 0, 0, 9}},
		{api.Ins{Op: api.Call, Imm: 1 << 32}, []byte{23, 0, 0, 0, 0, 0, 0, 1, 0, 0, 0, 0}},
	} {
		if b, e := Put(c.i); !bytes.Equal(b, c.want) || e != api.OK {
			t.Error(c.i, b, e)
		}
		if i, e, at := Get(c.want); i != c.i || e != api.OK || at != 0 {
			t.Error(c.want, i, e, at)
		}
	}
}

// P2.1: as plain instructions, what is wrong.
func TestPutWrong(t *testing.T) {
	for _, op := range none() {
		for _, i := range []api.Ins{{Op: op}, {Op: op, A: 9, B: -1, C: 3, Imm: 1}} {
			if b, e := Put(i); len(b) != 0 || e != api.ErrOp {
				t.Error(i, b, e)
			}
		}
	}
	for _, i := range []api.Ins{
		{Op: api.Halt, A: 1}, {Op: api.Halt, B: 1}, {Op: api.Halt, C: 1}, {Op: api.Halt, Imm: 1}, {Op: api.Fail, Imm: 1 << 63}, {Op: api.Back, A: 256},
		{Op: api.Set, A: 8}, {Op: api.Set, A: -1}, {Op: api.Set, A: 256}, {Op: api.Set, B: 1}, {Op: api.Set, C: 1},
		{Op: api.Copy, B: 8}, {Op: api.Copy, C: 1}, {Op: api.Copy, Imm: 1},
		{Op: api.Add, A: 8}, {Op: api.Add, B: 8}, {Op: api.Add, C: 8}, {Op: api.Add, C: -1}, {Op: api.Add, Imm: all},
		{Op: api.Load}, {Op: api.Load, C: 3}, {Op: api.Load, C: 7}, {Op: api.Load, C: 9}, {Op: api.Load, C: 16}, {Op: api.Load, C: -1}, {Op: api.Load, C: 257}, {Op: api.Load, A: 8, C: 1},
		{Op: api.Save}, {Op: api.Save, C: 5}, {Op: api.Save, C: 6}, {Op: api.Save, B: 8, C: 8},
		{Op: api.Input, B: 8}, {Op: api.Input, C: 1}, {Op: api.Length, B: 1}, {Op: api.Length, Imm: 1},
		{Op: api.Jump, A: 1}, {Op: api.Branch, A: 8}, {Op: api.Branch, B: 1}, {Op: api.Call, A: 1}, {Op: api.Call, B: 1}, {Op: api.Call, C: 1},
	} {
		if b, e := Put(i); len(b) != 0 || e != api.ErrField {
			t.Error(i, b, e)
		}
	}
}

// P2.1: of each first byte, each part in turn over all bytes, and all parts together at their edges.
func TestGet(t *testing.T) {
	edges := []byte{0, 1, 2, 3, 4, 5, 7, 8, 9, 16, 128, 255}
	for op := range 256 {
		for x := range 256 {
			for _, c := range []byte{0, 1} {
				checkGet(t, byte(op), byte(x), 0, c, 0)
				checkGet(t, byte(op), 0, byte(x), c, 0)
			}
			checkGet(t, byte(op), 0, 0, byte(x), 0)
			checkGet(t, byte(op), 7, 7, byte(x), 1)
		}
		for _, a := range edges {
			for _, b := range edges {
				for _, c := range edges {
					checkGet(t, byte(op), a, b, c, 0)
					checkGet(t, byte(op), a, b, c, 1)
				}
			}
		}
		for _, imm := range wide() {
			checkGet(t, byte(op), 0, 0, 0, imm)
			checkGet(t, byte(op), 0, 0, 8, imm)
		}
		// Each byte of Imm counts, and the place that is told is where Imm begins.
		for down := 0; down < 64; down += 8 {
			checkGet(t, byte(op), 0, 0, 0, 1<<down)
		}
	}
}

// P2.1: the first part that is wrong is told, from the left.
func TestGetFirst(t *testing.T) {
	for _, c := range []struct {
		b  []byte
		e  api.Errno
		at int
	}{
		{[]byte{26, 9, 9, 9, 9, 9, 9, 9, 9, 9, 9, 9}, api.ErrOp, 0},
		{[]byte{255, 0, 0, 0, 0, 0, 0, 0, 0, 0, 0, 0}, api.ErrOp, 0},
		{[]byte{0, 1, 1, 1, 0, 0, 0, 0, 0, 0, 0, 1}, api.ErrField, 1},
		{[]byte{0, 0, 1, 1, 0, 0, 0, 0, 0, 0, 0, 1}, api.ErrField, 2},
		{[]byte{0, 0, 0, 1, 0, 0, 0, 0, 0, 0, 0, 1}, api.ErrField, 3},
		{[]byte{0, 0, 0, 0, 0, 0, 0, 0, 0, 0, 0, 1}, api.ErrField, 4},
		{[]byte{25, 0, 0, 0, 1, 0, 0, 0, 0, 0, 0, 0}, api.ErrField, 4},
		{[]byte{1, 8, 1, 1, 0, 0, 0, 0, 0, 0, 0, 0}, api.ErrField, 1},
		{[]byte{1, 7, 1, 1, 0, 0, 0, 0, 0, 0, 0, 0}, api.ErrField, 2},
		{[]byte{16, 7, 8, 8, 0, 0, 0, 0, 0, 0, 0, 1}, api.ErrField, 2},
		{[]byte{17, 8, 8, 3, 0, 0, 0, 0, 0, 0, 0, 1}, api.ErrField, 1},
		{[]byte{17, 7, 8, 3, 0, 0, 0, 0, 0, 0, 0, 1}, api.ErrField, 2},
		{[]byte{17, 7, 7, 3, 0, 0, 0, 0, 0, 0, 0, 1}, api.ErrField, 3},
		{[]byte{18, 7, 7, 0, 0, 0, 0, 0, 0, 0, 0, 1}, api.ErrField, 3},
		{[]byte{20, 7, 0, 0, 0, 0, 0, 0, 1, 0, 0, 0}, api.ErrField, 4},
		{[]byte{21, 1, 0, 9, 0, 0, 0, 0, 0, 0, 0, 1}, api.ErrField, 1},
	} {
		for _, b := range [][]byte{c.b, append(slices.Clone(c.b), 99, 0)} {
			if i, e, at := Get(b); i != (api.Ins{}) || e != c.e || at != c.at {
				t.Error(b, i, e, at)
			}
		}
	}
}

// P2.1: fewer than 12 bytes go ahead of all that is wrong in them.
func TestGetShort(t *testing.T) {
	for n := range 12 {
		for _, x := range []byte{0, 1, 3, 17, 26, 255} {
			// The bytes that are wanting stand in the spare room, which is no part of what is handed in.
			b := bytes.Repeat([]byte{x}, 12)[:n]
			if i, e, at := Get(b); i != (api.Ins{}) || e != api.ErrShort || at != n {
				t.Error(b, i, e, at)
			}
		}
	}
	if i, e, at := Get(nil); i != (api.Ins{}) || e != api.ErrShort || at != 0 {
		t.Error("nil", i, e, at)
	}
}

// P2.1: bytes behind the first 12 play no part.
func TestGetMore(t *testing.T) {
	want := api.Ins{Op: api.Load, A: 7, B: 0, C: 8, Imm: all - 1}
	x := spelled(api.Load, 7, 0, 8, all-1)
	for _, more := range [][]byte{nil, {0}, {255}, bytes.Repeat([]byte{200}, 12), bytes.Repeat([]byte{1}, 1000)} {
		if i, e, at := Get(slices.Concat(x, more)); i != want || e != api.OK || at != 0 {
			t.Error(len(more), i, e, at)
		}
	}
}

// P2.2: after which operations the one behind may come next.
func TestGoes(t *testing.T) {
	stops := []int{api.Halt, api.Jump, api.Back, api.Fail}
	for _, op := range numbers() {
		if Goes(op) == slices.Contains(stops, op) {
			t.Error(op)
		}
	}
	for _, op := range none() {
		if Goes(op) {
			t.Error(op)
		}
	}
}

// P2.2: names, of api's numbers, and back.
func TestNames(t *testing.T) {
	for n, op := range numbers() {
		if got := Name(op); got != names[n] {
			t.Error("name", op, got)
		}
		if got, ok := Op(names[n]); got != op || !ok {
			t.Error("op", names[n], got, ok)
		}
	}
	for _, op := range none() {
		if got := Name(op); got != "" {
			t.Error("name", op, got)
		}
	}
}

// P2.2: of what is no name, 0 and false.
func TestNoNames(t *testing.T) {
	wrong := []string{"", " ", "\x00", "0", "25", "nop", "opadd", "load1", "hal", "alt", "haltset", "halt set", "ｈalt", "\xff", strings.Repeat("halt", 1000)}
	for _, name := range names {
		wrong = append(wrong, strings.ToUpper(name), strings.ToUpper(name[:1])+name[1:], name+" ", " "+name, name+"\n", name+"\x00", name+name, name[:1])
	}
	for _, name := range wrong {
		if op, ok := Op(name); op != 0 || ok {
			t.Errorf("%q: %d, %v", name, op, ok)
		}
	}
}

// P2.3: what is put is got as it was.
func TestPutThenGet(t *testing.T) {
	for op := range 26 {
		for _, a := range samples() {
			for _, b := range samples() {
				for _, c := range samples() {
					for _, imm := range wide() {
						i := api.Ins{Op: op, A: a, B: b, C: c, Imm: imm}
						x, e := Put(i)
						if e != api.OK {
							continue
						}
						if j, f, at := Get(x); len(x) != 12 || j != i || f != api.OK || at != 0 {
							t.Fatal(i, x, j, f, at)
						}
					}
				}
			}
		}
	}
}

// P2.3: what is got is put as it was.
func TestGetThenPut(t *testing.T) {
	got := 0
	for op := range 256 {
		for abc := range 1000 {
			for _, imm := range wide() {
				x := spelled(byte(op), byte(abc%10), byte(abc/10%10), byte(abc/100), imm)
				i, e, _ := Get(x)
				if e != api.OK {
					continue
				}
				got++
				if y, f := Put(i); !bytes.Equal(x, y) || f != api.OK {
					t.Fatal(x, i, y, f)
				}
			}
		}
	}
	// As the table counts them, with 12 of Imm: three of nothing, set and branch, copy, fourteen of three registers, load and save, input, length, jump and call.
	if want := 3 + 2*8*12 + 64 + 14*512 + 2*64*4*12 + 64*12 + 8 + 2*12; got != want {
		t.Error("instructions that are right:", got, "not", want)
	}
}

// Rules 3 and 4: what is handed in is left as it is, its spare room too; answers are new memory.
func TestMemory(t *testing.T) {
	room := bytes.Repeat([]byte{7}, 40)
	copy(room, spelled(api.Save, 1, 2, 4, 77))
	before := slices.Clone(room)
	for _, n := range []int{0, 11, 12, 20} {
		Get(room[:n])
		if !bytes.Equal(room, before) {
			t.Fatal("changed", n, room)
		}
	}
	i, _, _ := Get(room)
	one, _ := Put(i)
	two, _ := Put(i)
	for n := range one {
		one[n] = 255
	}
	three, _ := Put(i)
	if want := before[:12]; !bytes.Equal(two, want) || !bytes.Equal(three, want) || !bytes.Equal(room, before) {
		t.Error("shared", two, three, room)
	}
}
