package known

import (
	"math"
	"math/big"
	"strings"
	"testing"

	"backreach/api"
	"backreach/word"
)

const all = math.MaxUint64

func operations() []int {
	return []int{
		api.OpNot, api.OpAdd, api.OpSub, api.OpMul, api.OpDiv, api.OpRem, api.OpAnd, api.OpOr, api.OpXor,
		api.OpShl, api.OpShr, api.OpSar, api.OpEq, api.OpLess, api.OpBelow,
	}
}

func isTruth(op int) bool {
	return op == api.OpEq || op == api.OpLess || op == api.OpBelow
}

// In these tests known bits are written as texts, the highest bit first: 0, 1, ? of what isn't known, and ! of what is both.

// of is the bits of such a text.
func of(text string) api.Bits {
	var b api.Bits
	for _, letter := range text {
		b.Zero, b.One = b.Zero<<1, b.One<<1
		if letter == '0' || letter == '!' {
			b.Zero |= 1
		}
		if letter == '1' || letter == '!' {
			b.One |= 1
		}
	}
	return b
}

// text is the text of the lowest w bits.
func text(w int, b api.Bits) string {
	var t strings.Builder
	for at := w - 1; at >= 0; at-- {
		t.WriteByte("?01!"[b.Zero>>at&1+b.One>>at&1*2])
	}
	return t.String()
}

// digits is the text of a word of which all bits are known.
func digits(w int, x uint64) string {
	return text(w, api.Bits{Zero: ^x, One: x})
}

// texts is all texts of a length of some letters.
func texts(w int, letters string) []string {
	l := []string{""}
	for range w {
		var longer []string
		for _, t := range l {
			for _, letter := range letters {
				longer = append(longer, t+string(letter))
			}
		}
		l = longer
	}
	return l
}

// shapes is texts of a length with gaps of several shapes.
func shapes(w int) []string {
	top := uint64(1) << (w - 1)
	gaps := []uint64{0, 1, top, 0x0f, 0xf << (w / 2), 0x5555555555555555, 0x18, all, all - 1, top - 1, 0x7e}
	words := []uint64{0, all, 0xa5a5a5a5a5a5a5a5, 3, uint64(w), uint64(w) - 1, top, top - 1, 1}
	var l []string
	seen := map[string]bool{}
	for _, gap := range gaps {
		for _, x := range words {
			t := text(w, api.Bits{Zero: ^x &^ gap, One: x &^ gap})
			if !seen[t] {
				seen[t] = true
				l = append(l, t)
			}
		}
	}
	return l
}

// allWords is each word that has the bits of a text.
func allWords(t string) []uint64 {
	l := []uint64{0}
	for _, letter := range t {
		var longer []uint64
		for _, x := range l {
			if letter != '1' {
				longer = append(longer, x<<1)
			}
			if letter != '0' {
				longer = append(longer, x<<1|1)
			}
		}
		l = longer
	}
	return l
}

// someWords is a few of the words that have the bits of a text.
func someWords(t string) []uint64 {
	b := of(t)
	gap := word.Cut(len(t), ^(b.Zero | b.One))
	l := []uint64{}
	for _, fill := range []uint64{0, all, 0x5555555555555555, 0xaaaaaaaaaaaaaaaa, 1, 1 << (len(t) - 1), gap & -gap, uint64(len(t))} {
		l = append(l, b.One|fill&gap)
	}
	return l
}

// The chapter's rules, written a second time, of texts.

func rightText(w int, b api.Bits) string {
	t := text(w, b)
	if strings.Contains(t, "!") {
		return strings.Repeat("?", w)
	}
	return t
}

func isAll(t string) bool { return !strings.Contains(t, "?") }

func number(t string) *big.Int {
	x, _ := new(big.Int).SetString("0"+t, 2)
	return x
}

// each puts together what a rule says of each two letters.
func each(x, y string, rule func(p, q byte) byte) string {
	var t strings.Builder
	for at := range len(x) {
		t.WriteByte(rule(x[at], y[at]))
	}
	return t.String()
}

func turn(p, _ byte) byte {
	switch p {
	case '0':
		return '1'
	case '1':
		return '0'
	}
	return '?'
}

func and(p, q byte) byte {
	switch {
	case p == '0' || q == '0':
		return '0'
	case p == '1' && q == '1':
		return '1'
	}
	return '?'
}

func or(p, q byte) byte {
	switch {
	case p == '1' || q == '1':
		return '1'
	case p == '0' && q == '0':
		return '0'
	}
	return '?'
}

func xor(p, q byte) byte {
	switch {
	case p == '?' || q == '?':
		return '?'
	case p == q:
		return '0'
	}
	return '1'
}

// expectedNumber is a sum, a difference or a product of the lowest bits without a gap.
func expectedNumber(op int, x, y string) string {
	from := max(strings.LastIndex(x, "?"), strings.LastIndex(y, "?")) + 1
	n := len(x) - from
	p, q := number(x[from:]), number(y[from:])
	switch op {
	case api.OpAdd:
		p.Add(p, q)
	case api.OpSub:
		p.Sub(p, q)
	case api.OpMul:
		p.Mul(p, q)
	}
	p.Mod(p, new(big.Int).Lsh(big.NewInt(1), uint(n)))
	t := ""
	for at := n - 1; at >= 0; at-- {
		t += string("01"[p.Bit(at)])
	}
	return strings.Repeat("?", from) + t
}

func expectedMove(op int, x, y string) string {
	w := len(x)
	if !isAll(y) {
		return strings.Repeat("?", w)
	}
	by := w
	if n := number(y); n.Cmp(big.NewInt(int64(w))) < 0 {
		by = int(n.Int64())
	}
	comes := "0"
	if op == api.OpSar {
		comes = x[:1]
	}
	if op == api.OpShl {
		return x[by:] + strings.Repeat(comes, by)
	}
	return strings.Repeat(comes, by) + x[:w-by]
}

// expected is the answer of Apply, of an operation, and of texts of right bits.
func expected(op int, x, y string) string {
	if isAll(x) && (op == api.OpNot || isAll(y)) {
		second := of(strings.ReplaceAll(y, "?", "0"))
		answer := digits(len(x), word.Apply(op, len(x), of(x).One, second.One))
		if isTruth(op) {
			return answer[len(x)-1:]
		}
		return answer
	}
	switch op {
	case api.OpNot:
		return each(x, y, turn)
	case api.OpAnd:
		return each(x, y, and)
	case api.OpOr:
		return each(x, y, or)
	case api.OpXor:
		return each(x, y, xor)
	case api.OpAdd, api.OpSub, api.OpMul:
		return expectedNumber(op, x, y)
	case api.OpShl, api.OpShr, api.OpSar:
		return expectedMove(op, x, y)
	case api.OpEq:
		if strings.Contains(each(x, y, xor), "1") {
			return "0"
		}
	}
	return "?"
}

// row is an operation of two texts, of their length as the width, and its answer.
type row struct {
	op         int
	x, y, want string
}

func checkRows(t *testing.T, rows []row) {
	t.Helper()
	for _, r := range rows {
		if got := Apply(r.op, len(r.x), of(r.x), of(r.y)); got != of(r.want) {
			t.Error(r, got)
		}
	}
}

// checkPairs holds Apply of all pairs of two lists of a width against the chapter's rules.
func checkPairs(t *testing.T, w, counts int, first, second []string) {
	t.Helper()
	for _, s := range first {
		for _, u := range second {
			x, y := rightText(counts, of(s)), rightText(counts, of(u))
			for _, op := range operations() {
				if got, want := Apply(op, w, of(s), of(u)), of(expected(op, x, y)); got != want {
					t.Fatal(op, w, s, u, got, want)
				}
			}
		}
	}
}

// P12.1: the chapter's examples.
func TestExamples(t *testing.T) {
	checkRows(t, []row{
		{api.OpAdd, "???????1", "???????1", "0"},
		{api.OpMul, "???????1", "???????1", "1"},
	})
	if got := Apply(api.OpAdd, 8, api.Bits{One: 1}, api.Bits{One: 1}); got != (api.Bits{Zero: 1}) {
		t.Error(got)
	}
	if got := Apply(api.OpMul, 8, api.Bits{One: 1}, api.Bits{One: 1}); got != (api.Bits{One: 1}) {
		t.Error(got)
	}
}

// P12.1: bit by bit, each bit 0, 1 and not known, of both.
func TestBitwise(t *testing.T) {
	checkRows(t, []row{
		{api.OpNot, "01??10??", "????????", "10??01??"},
		{api.OpNot, "01??10??", "10101010", "10??01??"},
		{api.OpNot, "????????", "10101010", "????????"},
		{api.OpAnd, "000111???", "01?01?01?", "00001?0??"},
		{api.OpOr, "000111???", "01?01?01?", "01?111?1?"},
		{api.OpXor, "000111???", "01?01?01?", "01?10????"},
	})
}

// P12.1: sums, differences and products whose lowest bits are known of one only, of both up to some bit with a gap behind it, and of all.
func TestLowestBits(t *testing.T) {
	checkRows(t, []row{
		{api.OpAdd, "???????1", "????????", "????????"},
		{api.OpAdd, "????????", "00000001", "????????"},
		{api.OpSub, "???????1", "????????", "????????"},
		{api.OpMul, "????????", "???????0", "????????"},
		{api.OpMul, "00000000", "???????1", "???????0"},
		{api.OpAdd, "?????011", "??????01", "??????00"},
		{api.OpSub, "?????011", "??????10", "??????01"},
		{api.OpSub, "?????000", "?????001", "?????111"},
		{api.OpMul, "?????011", "??????11", "??????01"},
		{api.OpAdd, "11111?11", "11110?11", "??????10"},
		{api.OpSub, "1111?111", "111?0001", "?????110"},
		{api.OpMul, "0?000101", "?0000101", "??011001"},
		{api.OpAdd, "1010101?", "10101010", "????????"},
		{api.OpAdd, "01111111", "?0000001", "?0000000"},
		{api.OpAdd, "?1111111", "00000001", "?0000000"},
		{api.OpAdd, "11111111", "00000001", "00000000"},
		{api.OpSub, "00000000", "00000001", "11111111"},
		{api.OpMul, "11111111", "11111111", "00000001"},
	})
	high := strings.Repeat("?", 32)
	low := strings.Repeat("1", 32)
	checkRows(t, []row{
		{api.OpAdd, high + low, high + low, low[1:] + "0"},
		{api.OpSub, high + low, high + low, strings.Repeat("0", 32)},
		{api.OpMul, high + low, high + low, strings.Repeat("0", 31) + "1"},
		{api.OpAdd, "?" + low + low[1:], "0" + low + low[1:], strings.Repeat("1", 62) + "0"},
	})
}

// P12.1: shifts by 0, by less than the width, by the width, by more, and by what isn't known whole.
func TestShifts(t *testing.T) {
	checkRows(t, []row{
		{api.OpShl, "01?10?1?", "00000000", "01?10?1?"},
		{api.OpShr, "01?10?1?", "00000000", "01?10?1?"},
		{api.OpSar, "01?10?1?", "00000000", "01?10?1?"},
		{api.OpSar, "?1?10?1?", "00000000", "?1?10?1?"},
		{api.OpShl, "01?10?1?", "00000011", "10?1?000"},
		{api.OpShr, "01?10?1?", "00000011", "00001?10"},
		{api.OpShl, "01?10?10", "00000111", "00000000"},
		{api.OpShl, "01?10?11", "00000111", "10000000"},
		{api.OpShl, "01?10?1?", "00000111", "?0000000"},
		{api.OpShr, "01?10?1?", "00000111", "00000000"},
		{api.OpShr, "?1?10?1?", "00000111", "0000000?"},
		{api.OpShl, "11?10?1?", "00001000", "00000000"},
		{api.OpShr, "11?10?1?", "00001000", "00000000"},
		{api.OpShl, "????????", "11111111", "00000000"},
		{api.OpShr, "????????", "11111111", "00000000"},
		{api.OpShl, "????????", "00001001", "00000000"},
		{api.OpShl, "01?10?1?", "0000000?", "????????"},
		{api.OpShr, "01?10?1?", "?0000000", "????????"},
		{api.OpSar, "01?10?1?", "0000?000", "????????"},
		{api.OpShl, "00000000", "1111111?", "????????"},
		{api.OpShr, "00000000", "????????", "????????"},
		{api.OpSar, "11111111", "?0000000", "????????"},
	})
}

// P12.1: OpSar with the highest bit 0, 1, and not known.
func TestSigns(t *testing.T) {
	checkRows(t, []row{
		{api.OpSar, "01?10?1?", "00000011", "00001?10"},
		{api.OpSar, "11?10?1?", "00000011", "11111?10"},
		{api.OpSar, "?1?10?1?", "00000011", "????1?10"},
		{api.OpSar, "0???????", "00000111", "00000000"},
		{api.OpSar, "1???????", "00000111", "11111111"},
		{api.OpSar, "?0000000", "00000111", "????????"},
		{api.OpSar, "0???????", "00001000", "00000000"},
		{api.OpSar, "1???????", "00001000", "11111111"},
		{api.OpSar, "?1111111", "00001000", "????????"},
		{api.OpSar, "0???????", "11111111", "00000000"},
		{api.OpSar, "1???????", "11111111", "11111111"},
		{api.OpSar, "?1111111", "11111111", "????????"},
	})
	top := "1" + strings.Repeat("?", 63)
	by := func(n uint64) string { return digits(64, n) }
	checkRows(t, []row{
		{api.OpSar, top, by(63), strings.Repeat("1", 64)},
		{api.OpSar, top, by(64), strings.Repeat("1", 64)},
		{api.OpSar, top, by(all), strings.Repeat("1", 64)},
		{api.OpSar, top, by(1), "11" + strings.Repeat("?", 62)},
		{api.OpShr, top, by(63), strings.Repeat("0", 63) + "1"},
		{api.OpShr, top, by(64), strings.Repeat("0", 64)},
		{api.OpShr, top, by(1 << 63), strings.Repeat("0", 64)},
		{api.OpShl, top, by(63), "?" + strings.Repeat("0", 63)},
		{api.OpShl, top, by(64), strings.Repeat("0", 64)},
		{api.OpShl, top, by(1 << 32), strings.Repeat("0", 64)},
	})
}

// P12.1: OpEq with a bit known of both that isn't the same, and without one; truths have one bit, where all are known.
func TestTruths(t *testing.T) {
	checkRows(t, []row{
		{api.OpEq, "1???????", "0???????", "0"},
		{api.OpEq, "???????0", "???????1", "0"},
		{api.OpEq, "0110011?", "0111011?", "0"},
		{api.OpEq, "0110011?", "0110011?", "?"},
		{api.OpEq, "1???????", "?0??????", "?"},
		{api.OpEq, "11111111", "1111111?", "?"},
		{api.OpEq, "11111111", "0???????", "0"},
		{api.OpEq, "11111111", "11111111", "1"},
		{api.OpEq, "11111111", "11111110", "0"},
		{api.OpLess, "00000101", "10000000", "1"},
		{api.OpLess, "10000000", "00000101", "0"},
		{api.OpBelow, "00000101", "10000000", "0"},
		{api.OpBelow, "10000000", "00000101", "1"},
		{api.OpLess, "0???????", "1???????", "?"},
		{api.OpBelow, "1???????", "0???????", "?"},
		{api.OpLess, "00000000", "???????1", "?"},
	})
	for _, op := range operations() {
		for _, x := range []uint64{0, 5, 1 << 63, all} {
			for _, y := range []uint64{0, 5, 1 << 63, all} {
				got := Apply(op, 64, Of(64, x), Of(64, y))
				places := uint64(all)
				if isTruth(op) {
					places = 1
				}
				if got.Zero|got.One != places || got.One != word.Apply(op, 64, x, y) {
					t.Error(op, x, y, got)
				}
			}
		}
	}
}

// P12.1: quotients and rests are known only where all bits of both are.
func TestDivisions(t *testing.T) {
	checkRows(t, []row{
		{api.OpDiv, "00101001", "00000111", "00000101"},
		{api.OpRem, "00101001", "00000111", "00000110"},
		{api.OpDiv, "00101001", "00000000", "11111111"},
		{api.OpRem, "00101001", "00000000", "00101001"},
		{api.OpDiv, "00000000", "????????", "????????"},
		{api.OpDiv, "?0000000", "00000001", "????????"},
		{api.OpRem, "00101001", "0000000?", "????????"},
		{api.OpRem, "0000000?", "00000001", "????????"},
	})
}

// P12.1: of OpNot all bits of the first one are enough, whatever is known of the second one.
func TestNotOfAll(t *testing.T) {
	for _, w := range []int{1, 7, 8, 64} {
		for _, x := range []uint64{0, 1, 5, 1 << (w - 1), all} {
			for _, second := range []api.Bits{{}, {Zero: 1}, {One: all}, {Zero: 3, One: 5}, {Zero: all, One: all}} {
				if got := Apply(api.OpNot, w, Of(w, x), second); got != Of(w, ^x) {
					t.Error(w, x, second, got)
				}
			}
		}
	}
}

// P12.1: a bit that is both 0 and 1 leaves none known; one above the width is cut first.
func TestRight(t *testing.T) {
	for _, c := range []struct {
		w          int
		give, want api.Bits
	}{
		{8, of("01??10?1"), of("01??10?1")},
		{8, api.Bits{}, api.Bits{}},
		{8, of("01!?10?1"), api.Bits{}},
		{8, of("0000000!"), api.Bits{}},
		{8, of("!0000000"), api.Bits{}},
		{8, of("!01??10?1"), of("01??10?1")},
		{8, of("!!!!!01??10?1"), of("01??10?1")},
		{8, of("01??01??10?1"), of("01??10?1")},
		{8, of("01?!01?!10?1"), api.Bits{}},
		{8, of("10000000?"), of("0000000?")},
		{8, api.Bits{Zero: all}, api.Bits{Zero: 255}},
		{8, api.Bits{One: all}, api.Bits{One: 255}},
		{8, api.Bits{Zero: all, One: all}, api.Bits{}},
		{8, api.Bits{Zero: all &^ 255, One: all}, api.Bits{One: 255}},
		{1, of("!1"), of("1")},
		{1, of("1!"), api.Bits{}},
		{63, api.Bits{Zero: 1 << 63, One: 1<<63 | 5}, api.Bits{One: 5}},
		{64, api.Bits{Zero: 1 << 63, One: 1<<63 | 5}, api.Bits{}},
		{64, api.Bits{Zero: 1 << 63, One: 1<<63 - 1}, api.Bits{Zero: 1 << 63, One: 1<<63 - 1}},
	} {
		if got := Right(c.w, c.give); got != c.want {
			t.Error(c, got)
		}
	}
}

// P12.1: bits of which one is both, and bits that are above the width, wherever they are handed in.
func TestTornWhereverHandedIn(t *testing.T) {
	for _, c := range []struct{ give, counts string }{
		{"1101001!", "????????"}, {"!1010010", "????????"}, {"11!10010", "????????"}, {"!!!!!!!!", "????????"},
		{"!11010011", "11010011"}, {"101!11010?11", "11010?11"}, {"!1101001!", "????????"}, {"000000000000", "00000000"},
	} {
		b, r := of(c.give), of(c.counts)
		for _, u := range []string{"????????", "00000000", "00000001", "11010011", "?1?1???1", "1111000!", "!10101010"} {
			o := of(u)
			for _, op := range operations() {
				if Apply(op, 8, b, o) != Apply(op, 8, r, o) || Apply(op, 8, o, b) != Apply(op, 8, o, r) {
					t.Error("apply", op, c, u)
				}
			}
			got, both := Meet(8, b, o)
			want, wantBoth := Meet(8, r, o)
			if got != want || both != wantBoth || Join(8, b, o) != Join(8, r, o) {
				t.Error("meet or join, first", c, u)
			}
			got, both = Meet(8, o, b)
			want, wantBoth = Meet(8, o, r)
			if got != want || both != wantBoth || Join(8, o, b) != Join(8, o, r) {
				t.Error("meet or join, second", c, u)
			}
		}
		for x := range uint64(256) {
			if Has(8, b, x) != Has(8, r, x) {
				t.Error("has", c, x)
			}
		}
		got, whole := Num(8, b)
		want, wantWhole := Num(8, r)
		if got != want || whole != wantWhole || whole != isAll(c.counts) {
			t.Error("num", c, got, whole)
		}
	}
	if got, both := Meet(8, of("!1101001"), of("10101010")); got != of("10101010") || !both {
		t.Error(got, both)
	}
	if got := Join(8, of("1101001!"), of("10101010")); got != (api.Bits{}) {
		t.Error(got)
	}
}

// P12.1: Of and Num, there and back; words are cut.
func TestOfAndNum(t *testing.T) {
	for w := 1; w <= 64; w++ {
		for _, x := range []uint64{0, 1, 2, 5, 255, 256, 300, 1 << (w - 1), word.Mask(w), word.Mask(w) + 1, 1 << 63, all - 1, all} {
			b := Of(w, x)
			if b.Zero^b.One != word.Mask(w) || b.Zero&b.One != 0 || b.One != word.Cut(w, x) {
				t.Error("of", w, x, b)
			}
			if got, whole := Num(w, b); got != word.Cut(w, x) || !whole {
				t.Error("num", w, x, got, whole)
			}
			if got := Right(w, b); got != b {
				t.Error("right", w, x, got)
			}
			for at := range w {
				less := api.Bits{Zero: b.Zero &^ (1 << at), One: b.One &^ (1 << at)}
				if got, whole := Num(w, less); got != 0 || whole {
					t.Error("less", w, x, at, got, whole)
				}
			}
		}
	}
	for _, c := range []struct {
		give  string
		want  uint64
		whole bool
	}{
		{"00101100", 44, true}, {"100101100", 44, true}, {"?00101100", 44, true}, {"!00101100", 44, true},
		{"0010110?", 0, false}, {"?0101100", 0, false}, {"0010!100", 0, false}, {"????????", 0, false}, {"1111111?", 0, false},
	} {
		if got, whole := Num(8, of(c.give)); got != c.want || whole != c.whole {
			t.Error(c, got, whole)
		}
	}
	if got := Of(8, 300); got != of("00101100") {
		t.Error(got)
	}
}

// P12.1: Has of words that have the bits, of words that differ in one that is known, and in one that isn't; words are cut.
func TestHas(t *testing.T) {
	for _, c := range []struct {
		give string
		x    uint64
		want bool
	}{
		{"01??10?1", 0b01001001, true}, {"01??10?1", 0b01111011, true}, {"01??10?1", 0b01011011, true},
		{"01??10?1", 0b11001001, false}, {"01??10?1", 0b00001001, false}, {"01??10?1", 0b01001000, false}, {"01??10?1", 0b01001101, false},
		{"????????", 0, true}, {"????????", 255, true}, {"0101010!", 3, true},
		{"01??10?1", 0b101001001, true}, {"01??10?1", 0b111001001, false}, {"00000000", 256, true}, {"00000001", 256, false},
		{"11111111", all, true}, {"00000000", all, false},
	} {
		if got := Has(8, of(c.give), c.x); got != c.want {
			t.Error(c, got)
		}
	}
	for _, w := range []int{1, 2, 8, 33, 64} {
		for _, s := range shapes(w) {
			for _, x := range someWords(s) {
				for at := range w {
					isKnown := s[w-1-at] != '?'
					if !Has(w, of(s), x) || Has(w, of(s), x^1<<at) == isKnown {
						t.Error(w, s, x, at)
					}
				}
				if above := x | all&^word.Mask(w); !Has(w, of(s), above) {
					t.Error(w, s, above)
				}
			}
		}
	}
}

// P12.1: Meet and Join of bits that are known of one, of both the same, of both not the same.
func TestMeetAndJoin(t *testing.T) {
	for _, c := range []struct {
		x, y, meet string
		both       bool
		join       string
	}{
		{"0???1???", "?0???1??", "00??11??", true, "????????"},
		{"01??01??", "01????01", "01??0101", true, "01??????"},
		{"01??01??", "01??01??", "01??01??", true, "01??01??"},
		{"????????", "01??01??", "01??01??", true, "????????"},
		{"01010101", "01??01??", "01010101", true, "01??01??"},
		{"01010101", "01010101", "01010101", true, "01010101"},
		{"0???1???", "1???1???", "", false, "????1???"},
		{"01?????0", "01?????1", "", false, "01??????"},
		{"00000000", "11111111", "", false, "????????"},
		{"????????", "????????", "????????", true, "????????"},
	} {
		for _, turned := range []bool{false, true} {
			x, y := of(c.x), of(c.y)
			if turned {
				x, y = y, x
			}
			if got, both := Meet(8, x, y); got != of(c.meet) || both != c.both {
				t.Error("meet", c, turned, got, both)
			}
			if got := Join(8, x, y); got != of(c.join) {
				t.Error("join", c, turned, got)
			}
		}
	}
	const half = 1 << 63
	if got, both := Meet(64, api.Bits{One: half}, api.Bits{Zero: half, One: 1}); got != (api.Bits{}) || both {
		t.Error(got, both)
	}
	if got, both := Meet(63, api.Bits{One: half}, api.Bits{Zero: half, One: 1}); got != (api.Bits{One: 1}) || !both {
		t.Error(got, both)
	}
	if got := Join(64, api.Bits{One: half | 1}, api.Bits{Zero: 1, One: half}); got != (api.Bits{One: half}) {
		t.Error(got)
	}
}

// P12.1: each operation as the chapter's rules say, of all bits of small widths, and of bits of several shapes of greater ones.
func TestApplyAgainstTheRules(t *testing.T) {
	for w := 1; w <= 3; w++ {
		checkPairs(t, w, w, texts(w, "01?!"), texts(w, "01?!"))
	}
	checkPairs(t, 4, 4, texts(4, "01?"), texts(4, "01?"))
	checkPairs(t, 1, 1, texts(2, "01?!"), texts(2, "01?!"))
	for _, w := range []int{5, 7, 8, 9, 31, 32, 33, 63, 64} {
		checkPairs(t, w, w, shapes(w), shapes(w))
	}
	some := shapes(8)
	few := []string{some[0], some[7], "????????", "00000011", "00001000", "?0000001", "0000?110"}
	checkPairs(t, 8, 8, texts(8, "01?"), few)
	checkPairs(t, 8, 8, few, texts(8, "01?"))
}

// P12.1: of what is no operation of layer 1, nothing, also where all bits are known.
func TestNoOperation(t *testing.T) {
	none := []int{
		math.MinInt, -5, -1, api.OpConst, api.OpInput, api.OpReg, api.OpMem, api.OpBlank, api.OpWide, api.OpLow,
		api.OpIf, api.OpGet, api.OpPut, 25, 256 + api.OpAdd, math.MaxInt,
	}
	for _, op := range none {
		for _, w := range []int{-1, 0, 1, 8, 64, 65} {
			l := []api.Bits{{}, {Zero: 1}, {One: 1}, {Zero: 4, One: 2}, {Zero: 1, One: 1}, {Zero: all}, {One: all}, {Zero: all - 1, One: 1}}
			for _, x := range l {
				for _, y := range l {
					if got := Apply(op, w, x, y); got != (api.Bits{}) {
						t.Error(op, w, x, y, got)
					}
				}
			}
		}
	}
}

// P12.1: below 1 a width counts as 1, above 64 as 64.
func TestWidthsOutside(t *testing.T) {
	for w, counts := range map[int]int{0: 1, -1: 1, -64: 1, math.MinInt: 1, 65: 64, 128: 64, math.MaxInt: 64} {
		l := []string{"?", "0", "1", "!", "01", "!0", "1?", "0!", digits(64, 63), digits(64, 64), digits(64, 65), "1" + strings.Repeat("?", 63), strings.Repeat("1", 64), "?" + digits(63, 0)}
		checkPairs(t, w, counts, l, l)
		for _, s := range l {
			x := of(s)
			if Right(w, x) != of(rightText(counts, x)) {
				t.Error("right", w, s)
			}
			got, whole := Num(w, x)
			want, wantWhole := Num(counts, x)
			if got != want || whole != wantWhole || whole != isAll(rightText(counts, x)) {
				t.Error("num", w, s, got, whole)
			}
			for _, u := range l {
				y := of(u)
				got, both := Meet(w, x, y)
				want, wantBoth := Meet(counts, x, y)
				if got != want || both != wantBoth || Join(w, x, y) != Join(counts, x, y) {
					t.Error("meet or join", w, s, u)
				}
			}
			for _, n := range []uint64{0, 1, 2, 3, 63, 64, 1 << 63, all} {
				if Has(w, x, n) != Has(counts, x, n) || Of(w, n) != Of(counts, n) {
					t.Error("has or of", w, s, n)
				}
			}
		}
	}
}

// P12.2: of words that have known bits the answer of each operation has the answer's.
func checkWords(t *testing.T, w int, first, second []string, words func(string) []uint64) {
	t.Helper()
	for _, s := range first {
		for _, u := range second {
			for _, op := range operations() {
				answer := Apply(op, w, of(s), of(u))
				for _, x := range words(s) {
					for _, y := range words(u) {
						if p := word.Apply(op, w, x, y); p&answer.Zero|answer.One&^p != 0 {
							t.Fatal(op, w, s, u, x, y, answer, p)
						}
					}
				}
			}
		}
	}
}

// P12.2: all words of all bits of widths from 1 to 3, and of bits of several shapes of widths 5 and 8.
func TestAllWords(t *testing.T) {
	for w := 1; w <= 3; w++ {
		checkWords(t, w, texts(w, "01?"), texts(w, "01?"), allWords)
	}
	checkWords(t, 5, shapes(5), shapes(5), allWords)
	checkWords(t, 8, shapes(8), shapes(8), allWords)
}

// P12.2: some words of bits of several shapes of greater widths.
func TestSomeWords(t *testing.T) {
	for _, w := range []int{9, 17, 32, 33, 63, 64} {
		checkWords(t, w, shapes(w), shapes(w), someWords)
	}
}

// tellsNoMore tells whether each bit that is known of less is known of more, and the same.
func tellsNoMore(less, more api.Bits) bool {
	return less.Zero&^more.Zero == 0 && less.One&^more.One == 0
}

// lessKnown is a text with each one of its known bits left out.
func lessKnown(t string) []string {
	var l []string
	for at := range len(t) {
		l = append(l, t[:at]+"?"+t[at+1:])
	}
	return l
}

// P12.2: less that is known tells no more, of each operation, of Join, and of Meet, which may not be then.
func TestLessTellsNoMore(t *testing.T) {
	for w := 1; w <= 4; w++ {
		for _, s := range texts(w, "01?") {
			for _, u := range texts(w, "01?") {
				x, y := of(s), of(u)
				meet, both := Meet(w, x, y)
				for _, r := range lessKnown(s) {
					z := of(r)
					for _, op := range operations() {
						if !tellsNoMore(Apply(op, w, z, y), Apply(op, w, x, y)) || !tellsNoMore(Apply(op, w, y, z), Apply(op, w, y, x)) {
							t.Fatal("apply", op, s, u, r)
						}
					}
					got, still := Meet(w, z, y)
					if both && (!still || !tellsNoMore(got, meet)) || !tellsNoMore(Join(w, z, y), Join(w, x, y)) {
						t.Fatal("meet or join", s, u, r)
					}
				}
			}
		}
	}
}

// P12.2: words that have both bits are just those that have what meets; words that have one's have what joins.
func TestWordsOfMeetAndJoin(t *testing.T) {
	for w := 1; w <= 4; w++ {
		for _, s := range texts(w, "01?") {
			for _, u := range texts(w, "01?") {
				meet, both := Meet(w, of(s), of(u))
				join := Join(w, of(s), of(u))
				found := false
				for x := range uint64(1) << w {
					inOne, inOther := Has(w, of(s), x), Has(w, of(u), x)
					found = found || inOne && inOther
					if (inOne && inOther) != (both && Has(w, meet, x)) || (inOne || inOther) && !Has(w, join, x) {
						t.Fatal(s, u, x, meet, both, join)
					}
				}
				if found != both || !both && meet != (api.Bits{}) {
					t.Fatal(s, u, meet, both)
				}
			}
		}
	}
}
