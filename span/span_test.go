package span

import (
	"math"
	"math/big"
	"testing"

	"backreach/api"
	"backreach/word"
)

const all = math.MaxUint64

func operations() []int {
	return []int{
		api.OpNot, api.OpAdd, api.OpSub, api.OpMul, api.OpDiv, api.OpRem, api.OpAnd, api.OpOr, api.OpXor,
		api.OpShl, api.OpShr, api.OpSar, api.OpEq, api.OpLess, api.OpBelow,
	}
}

func of(lo, hi uint64) api.Span { return api.Span{Lo: lo, Hi: hi} }

// spans is all pairs of ends that don't go beyond a number, those that count as the whole too.
func spans(beyond uint64) []api.Span {
	var l []api.Span
	for lo := range beyond + 1 {
		for hi := range beyond + 1 {
			l = append(l, of(lo, hi))
		}
	}
	return l
}

// ends are numbers around the edges of a width, some of them above its greatest word.
func ends(w int) []uint64 {
	top := uint64(1) << (w - 1)
	return []uint64{
		0, 1, 2, uint64(w) - 1, uint64(w), uint64(w) + 1, 100, top / 2, top - 1, top, top + 1, top + top/2,
		2*top - 2, 2*top - 1, 2 * top, 1 << 32, all - 1, all,
	}
}

// edgeSpans is all spans between ends at the edges of a width.
func edgeSpans(w int) []api.Span {
	var l []api.Span
	for _, lo := range ends(w) {
		for _, hi := range ends(w) {
			l = append(l, of(lo, hi))
		}
	}
	return l
}

// someWords is the words at both ends of a right span, next to them, and between.
func someWords(s api.Span) []uint64 {
	near := min(s.Hi-s.Lo, 1)
	return []uint64{s.Lo, s.Lo + near, s.Lo + (s.Hi-s.Lo)/2, s.Hi - near, s.Hi}
}

// allWords is each word of a right span, one by one.
func allWords(s api.Span) []uint64 {
	l := []uint64{s.Lo}
	for x := s.Lo; x < s.Hi; x++ {
		l = append(l, x+1)
	}
	return l
}

// The chapter's rules, written a second time: ends are numbers without a width, and a span of which the table says nothing is nil.

type pair struct{ lo, hi *big.Int }

func exact(x uint64) *big.Int        { return new(big.Int).SetUint64(x) }
func power(n uint) *big.Int          { return new(big.Int).Lsh(big.NewInt(1), n) }
func plus(x, y *big.Int) *big.Int    { return new(big.Int).Add(x, y) }
func minus(x, y *big.Int) *big.Int   { return new(big.Int).Sub(x, y) }
func times(x, y *big.Int) *big.Int   { return new(big.Int).Mul(x, y) }
func over(x, y *big.Int) *big.Int    { return new(big.Int).Div(x, y) }
func isLess(x, y *big.Int) bool      { return x.Cmp(y) < 0 }
func greatest(w int) *big.Int        { return minus(power(uint(w)), big.NewInt(1)) }
func numbers(lo, hi *big.Int) *pair  { return &pair{lo, hi} }
func pointOf(x int64) *pair          { return numbers(big.NewInt(x), big.NewInt(x)) }
func lesser(x, y *big.Int) *big.Int  { return pick(isLess(x, y), x, y) }
func greater(x, y *big.Int) *big.Int { return pick(isLess(x, y), y, x) }
func (p *pair) answer() api.Span     { return of(p.lo.Uint64(), p.hi.Uint64()) }
func (p *pair) add(x *big.Int) *pair { return numbers(plus(p.lo, x), plus(p.hi, x)) }
func inHalf(w int, s *pair) bool     { return isLess(s.hi, power(uint(w-1))) }
func inHigh(w int, s *pair) bool     { return !isLess(s.lo, power(uint(w-1))) }

func pick(first bool, x, y *big.Int) *big.Int {
	if first {
		return x
	}
	return y
}

// right is a span as it counts, of a width from 1 to 64.
func right(w int, s api.Span) *pair {
	p := numbers(exact(s.Lo), exact(s.Hi))
	if isLess(p.hi, p.lo) || isLess(greatest(w), p.hi) {
		return numbers(new(big.Int), greatest(w))
	}
	return p
}

// up is a number times 2 to another, which is not so great that it couldn't be told.
func up(x, by *big.Int) *big.Int { return times(x, power(uint(by.Uint64()))) }

// down is a number over 2 to another, 0 from the width on.
func down(w int, x, by *big.Int) *big.Int {
	if !isLess(by, big.NewInt(int64(w))) {
		return new(big.Int)
	}
	return over(x, power(uint(by.Uint64())))
}

// ones is the least number of all bits 1 that neither of two is above.
func ones(x, y *big.Int) *big.Int {
	for n := uint(0); ; n++ {
		o := minus(power(n), big.NewInt(1))
		if !isLess(o, x) && !isLess(o, y) {
			return o
		}
	}
}

func expectedSums(op, w int, a, b, c, d *big.Int) *pair {
	m, more := greatest(w), power(uint(w))
	fits := func(x *big.Int) bool { return !isLess(m, x) }
	switch {
	case op == api.OpNot:
		return numbers(minus(m, b), minus(m, a))
	case op == api.OpAdd && fits(plus(b, d)):
		return numbers(plus(a, c), plus(b, d))
	case op == api.OpAdd && !fits(plus(a, c)):
		return numbers(plus(a, c), plus(b, d)).add(minus(new(big.Int), more))
	case op == api.OpSub && !isLess(a, d):
		return numbers(minus(a, d), minus(b, c))
	case op == api.OpSub && isLess(b, c):
		return numbers(minus(a, d), minus(b, c)).add(more)
	case op == api.OpMul && fits(times(b, d)):
		return numbers(times(a, c), times(b, d))
	case op == api.OpDiv && c.Sign() != 0:
		return numbers(over(a, d), over(b, c))
	case op == api.OpRem && isLess(b, c):
		return numbers(a, b)
	case op == api.OpRem && c.Sign() != 0:
		return numbers(new(big.Int), lesser(b, minus(d, big.NewInt(1))))
	case op == api.OpRem:
		return numbers(new(big.Int), b)
	}
	return nil
}

func expectedBits(op, w int, a, b, c, d *big.Int) *pair {
	switch {
	case op == api.OpAnd:
		return numbers(new(big.Int), lesser(b, d))
	case op == api.OpOr:
		return numbers(greater(a, c), ones(b, d))
	case op == api.OpXor:
		return numbers(new(big.Int), ones(b, d))
	case op == api.OpShl && isLess(d, big.NewInt(int64(w))) && !isLess(greatest(w), up(b, d)):
		return numbers(up(a, c), up(b, d))
	case op == api.OpShr, op == api.OpSar && inHalf(w, numbers(a, b)):
		return numbers(down(w, a, d), down(w, b, c))
	}
	return nil
}

func expectedTruths(op, w int, x, y *pair) *pair {
	halves := (inHalf(w, x) || inHigh(w, x)) && (inHalf(w, y) || inHigh(w, y))
	sameHalf := halves && inHalf(w, x) == inHalf(w, y)
	switch {
	case op == api.OpEq && (isLess(x.hi, y.lo) || isLess(y.hi, x.lo)):
		return pointOf(0)
	case op == api.OpLess || op == api.OpBelow && sameHalf:
		if isLess(x.hi, y.lo) {
			return pointOf(1)
		}
		if !isLess(x.lo, y.hi) {
			return pointOf(0)
		}
	case op == api.OpBelow && halves && inHigh(w, x):
		return pointOf(1)
	case op == api.OpBelow && halves:
		return pointOf(0)
	}
	return numbers(big.NewInt(0), big.NewInt(1))
}

// expected is the answer of Apply, of an operation, and of a width from 1 to 64.
func expected(op, w int, s, t api.Span) api.Span {
	x, y := right(w, s), right(w, t)
	if x.lo.Cmp(x.hi) == 0 && (op == api.OpNot || y.lo.Cmp(y.hi) == 0) {
		p := word.Apply(op, w, x.lo.Uint64(), y.lo.Uint64())
		return of(p, p)
	}
	if op == api.OpEq || op == api.OpLess || op == api.OpBelow {
		return expectedTruths(op, w, x, y).answer()
	}
	if p := expectedSums(op, w, x.lo, x.hi, y.lo, y.hi); p != nil {
		return p.answer()
	}
	if p := expectedBits(op, w, x.lo, x.hi, y.lo, y.hi); p != nil {
		return p.answer()
	}
	return numbers(new(big.Int), greatest(w)).answer()
}

// row is an operation of two spans, and its answer.
type row struct {
	op, w                    int
	a, b, c, d, wantL, wantH uint64
}

func checkRows(t *testing.T, rows []row) {
	t.Helper()
	for _, r := range rows {
		if got := Apply(r.op, r.w, of(r.a, r.b), of(r.c, r.d)); got != of(r.wantL, r.wantH) {
			t.Error(r, got)
		}
	}
}

// checkPairs holds Apply of all pairs of two lists against the chapter's rules.
func checkPairs(t *testing.T, w, counts int, first, second []api.Span) {
	t.Helper()
	for _, x := range first {
		for _, y := range second {
			for _, op := range operations() {
				if got, want := Apply(op, w, x, y), expected(op, counts, x, y); got != want {
					t.Fatal(op, w, x, y, got, want)
				}
			}
		}
	}
}

// P11.1: the chapter's examples.
func TestExamples(t *testing.T) {
	checkRows(t, []row{
		{api.OpAdd, 8, 200, 210, 50, 60, 0, 255},
		{api.OpAdd, 8, 250, 255, 10, 10, 4, 9},
	})
}

// P11.1: each operation, of ordinary spans.
func TestApply(t *testing.T) {
	checkRows(t, []row{
		{api.OpNot, 8, 5, 10, 77, 78, 245, 250},
		{api.OpAdd, 8, 5, 10, 7, 9, 12, 19},
		{api.OpSub, 8, 50, 60, 7, 9, 41, 53},
		{api.OpSub, 8, 7, 9, 50, 60, 203, 215},
		{api.OpMul, 8, 5, 10, 7, 9, 35, 90},
		{api.OpDiv, 8, 50, 60, 7, 9, 5, 8},
		{api.OpRem, 8, 5, 6, 7, 9, 5, 6},
		{api.OpRem, 8, 50, 60, 7, 9, 0, 8},
		{api.OpRem, 8, 5, 8, 7, 100, 0, 8},
		{api.OpAnd, 8, 50, 60, 7, 9, 0, 9},
		{api.OpOr, 8, 50, 60, 7, 9, 50, 63},
		{api.OpOr, 8, 7, 9, 50, 64, 50, 127},
		{api.OpXor, 8, 50, 60, 7, 9, 0, 63},
		{api.OpShl, 8, 5, 10, 2, 3, 20, 80},
		{api.OpShr, 8, 50, 60, 2, 3, 6, 15},
		{api.OpSar, 8, 50, 60, 2, 3, 6, 15},
		{api.OpEq, 8, 5, 10, 11, 12, 0, 0},
		{api.OpEq, 8, 11, 12, 5, 10, 0, 0},
		{api.OpEq, 8, 5, 10, 10, 12, 0, 1},
		{api.OpLess, 8, 5, 10, 11, 12, 1, 1},
		{api.OpLess, 8, 12, 15, 11, 12, 0, 0},
		{api.OpLess, 8, 5, 10, 10, 12, 0, 1},
		{api.OpLess, 8, 11, 15, 11, 12, 0, 1},
		{api.OpBelow, 8, 5, 10, 11, 12, 1, 1},
		{api.OpBelow, 8, 12, 15, 11, 12, 0, 0},
	})
}

// P11.1: sums, differences, products and moves that just fit, and that just don't.
func TestJustFits(t *testing.T) {
	const half = 1 << 63
	checkRows(t, []row{
		{api.OpAdd, 8, 0, 200, 0, 55, 0, 255},
		{api.OpAdd, 8, 100, 200, 10, 55, 110, 255},
		{api.OpAdd, 8, 100, 200, 10, 56, 0, 255},
		{api.OpAdd, 8, 100, 200, 155, 156, 0, 255},
		{api.OpAdd, 8, 100, 200, 156, 156, 0, 100},
		{api.OpAdd, 64, 5, half, 6, half - 1, 11, all},
		{api.OpAdd, 64, 5, half, 6, half, 0, all},
		{api.OpAdd, 64, half, half + 5, half - 1, half, 0, all},
		{api.OpAdd, 64, half, half + 5, half, half + 1, 0, 6},
		{api.OpAdd, 64, all - 1, all, all - 1, all, all - 3, all - 1},
		{api.OpAdd, 63, half - 1 - 4, half - 1, 0, 0, half - 5, half - 1},
		{api.OpSub, 8, 20, 30, 5, 20, 0, 25},
		{api.OpSub, 8, 20, 30, 5, 21, 0, 255},
		{api.OpSub, 8, 20, 30, 30, 40, 0, 255},
		{api.OpSub, 8, 20, 30, 31, 40, 236, 255},
		{api.OpSub, 64, 0, 5, 6, all, 1, all},
		{api.OpSub, 64, 0, 5, 5, all, 0, all},
		{api.OpMul, 8, 3, 5, 2, 51, 6, 255},
		{api.OpMul, 8, 3, 5, 2, 52, 0, 255},
		{api.OpMul, 8, 16, 17, 16, 17, 0, 255},
		{api.OpMul, 64, 2, 5, 3, all / 5, 6, all},
		{api.OpMul, 64, 2, 3, 3, all/3 + 1, 0, all},
		{api.OpMul, 64, 2, 1 << 32, 3, 1 << 32, 0, all},
		{api.OpMul, 64, 2, 1 << 63, 3, 4, 0, all},
		{api.OpMul, 63, 2, 3, 3, half / 2, 0, half - 1},
		{api.OpMul, 63, 1, 2, 3, half/2 - 1, 3, half - 2},
		{api.OpMul, 63, 1, 2, 3, half / 2, 0, half - 1},
		{api.OpShl, 8, 1, 63, 1, 2, 2, 252},
		{api.OpShl, 8, 1, 64, 1, 2, 0, 255},
		{api.OpShl, 8, 0, 1, 6, 7, 0, 128},
		{api.OpShl, 8, 0, 1, 7, 8, 0, 255},
		{api.OpShl, 64, 0, 1, 62, 63, 0, half},
		{api.OpShl, 64, 0, 2, 62, 63, 0, all},
		{api.OpShl, 64, 0, 1, 63, 64, 0, all},
		{api.OpShl, 64, 0, 0, 63, 64, 0, all},
		{api.OpShl, 64, 0, 0, 5, 63, 0, 0},
	})
}

// P11.1: of OpDiv and OpRem, a second span that has 0, or begins right above it.
func TestDivideByZero(t *testing.T) {
	checkRows(t, []row{
		{api.OpDiv, 8, 10, 20, 0, 0, 0, 255},
		{api.OpDiv, 8, 10, 20, 0, 1, 0, 255},
		{api.OpDiv, 8, 10, 20, 1, 3, 3, 20},
		{api.OpDiv, 8, 10, 10, 0, 2, 0, 255},
		{api.OpDiv, 8, 10, 10, 0, 0, 255, 255},
		{api.OpDiv, 8, 0, 255, 1, 255, 0, 255},
		{api.OpDiv, 8, 2, 3, 4, 5, 0, 0},
		{api.OpRem, 8, 10, 20, 0, 0, 0, 20},
		{api.OpRem, 8, 10, 20, 0, 3, 0, 20},
		{api.OpRem, 8, 10, 20, 1, 3, 0, 2},
		{api.OpRem, 8, 10, 20, 1, 1, 0, 0},
		{api.OpRem, 8, 10, 10, 0, 0, 10, 10},
		{api.OpRem, 8, 0, 1, 1, 2, 0, 1},
		{api.OpRem, 8, 0, 0, 1, 2, 0, 0},
		{api.OpRem, 8, 10, 20, 20, 30, 0, 20},
		{api.OpRem, 8, 10, 20, 21, 30, 10, 20},
		{api.OpRem, 64, 5, all, 1, all, 0, all - 1},
	})
}

// P11.1: bit by bit, with ends at numbers of all bits 1.
func TestBitwise(t *testing.T) {
	checkRows(t, []row{
		{api.OpAnd, 8, 0, 3, 4, 255, 0, 3},
		{api.OpAnd, 64, 7, all, 9, 1 << 63, 0, 1 << 63},
		{api.OpOr, 8, 2, 3, 0, 0, 2, 3},
		{api.OpOr, 8, 0, 0, 3, 4, 3, 7},
		{api.OpOr, 8, 0, 127, 5, 6, 5, 127},
		{api.OpOr, 8, 0, 128, 5, 6, 5, 255},
		{api.OpOr, 64, 1 << 62, 1<<63 - 1, 0, 5, 1 << 62, 1<<63 - 1},
		{api.OpOr, 64, 4, 1 << 63, 0, 5, 4, all},
		{api.OpXor, 8, 0, 1, 0, 0, 0, 1},
		{api.OpXor, 8, 2, 2, 1, 2, 0, 3},
		{api.OpXor, 64, 4, 1 << 63, 0, 5, 0, all},
	})
}

// P11.1: moves by the width and more.
func TestMovesByTheWidth(t *testing.T) {
	checkRows(t, []row{
		{api.OpShl, 8, 1, 2, 8, 9, 0, 255},
		{api.OpShl, 8, 0, 1, 200, 255, 0, 255},
		{api.OpShl, 8, 1, 1, 8, 8, 0, 0},
		{api.OpShr, 8, 16, 255, 7, 8, 0, 1},
		{api.OpShr, 8, 16, 255, 8, 9, 0, 0},
		{api.OpShr, 8, 255, 255, 0, 255, 0, 255},
		{api.OpShr, 64, 16, all, 63, 64, 0, 1},
		{api.OpShr, 64, 16, all, 64, all, 0, 0},
		{api.OpShr, 64, 1 << 63, all, 1, 1 << 32, 0, 1<<63 - 1},
		{api.OpSar, 8, 16, 127, 8, 9, 0, 0},
		{api.OpSar, 8, 16, 127, 4, 9, 0, 7},
		{api.OpSar, 64, 16, 1<<63 - 1, 64, all, 0, 0},
	})
}

// P11.1: OpSar and OpBelow of spans in the lower half, in the upper one, and across.
func TestHalves(t *testing.T) {
	const half = 1 << 63
	checkRows(t, []row{
		{api.OpSar, 8, 64, 127, 1, 1, 32, 63},
		{api.OpSar, 8, 64, 128, 1, 1, 0, 255},
		{api.OpSar, 8, 128, 200, 1, 1, 0, 255},
		{api.OpSar, 8, 128, 128, 1, 1, 192, 192},
		{api.OpSar, 64, 4, half - 1, 1, 2, 1, half/2 - 1},
		{api.OpSar, 64, 4, half, 1, 2, 0, all},
		{api.OpBelow, 8, 3, 5, 6, 127, 1, 1},
		{api.OpBelow, 8, 6, 127, 3, 6, 0, 0},
		{api.OpBelow, 8, 3, 6, 6, 127, 0, 1},
		{api.OpBelow, 8, 128, 130, 131, 255, 1, 1},
		{api.OpBelow, 8, 131, 255, 128, 131, 0, 0},
		{api.OpBelow, 8, 128, 131, 131, 255, 0, 1},
		{api.OpBelow, 8, 128, 255, 0, 127, 1, 1},
		{api.OpBelow, 8, 0, 127, 128, 255, 0, 0},
		{api.OpBelow, 8, 127, 128, 129, 130, 0, 1},
		{api.OpBelow, 8, 127, 128, 5, 6, 0, 1},
		{api.OpBelow, 8, 5, 6, 127, 128, 0, 1},
		{api.OpBelow, 8, 129, 130, 127, 128, 0, 1},
		{api.OpBelow, 64, half, all, 0, half - 1, 1, 1},
		{api.OpBelow, 64, 0, half - 1, half, all, 0, 0},
		{api.OpBelow, 64, half - 1, half, half + 1, all, 0, 1},
		{api.OpBelow, 1, 1, 1, 0, 1, 0, 1},
		{api.OpBelow, 1, 1, 1, 0, 0, 1, 1},
	})
}

// P11.1: of points the answer is a point, layer 1's; of OpNot of the first one alone.
func TestPoints(t *testing.T) {
	for _, w := range []int{1, 7, 8, 64} {
		for _, x := range ends(w) {
			for _, y := range ends(w) {
				x, y := word.Cut(w, x), word.Cut(w, y)
				for _, op := range operations() {
					p := word.Apply(op, w, x, y)
					if got := Apply(op, w, of(x, x), of(y, y)); got != of(p, p) {
						t.Error(op, w, x, y, got)
					}
				}
			}
			x := word.Cut(w, x)
			for _, second := range []api.Span{of(0, 0), of(0, 1), of(1, 0), of(3, all), of(all, all)} {
				if got := Apply(api.OpNot, w, of(x, x), second); got != of(word.Mask(w)-x, word.Mask(w)-x) {
					t.Error("not", w, x, second, got)
				}
			}
		}
	}
	checkRows(t, []row{
		{api.OpNot, 8, 3, 4, 9, 9, 251, 252},
		{api.OpNot, 8, 3, 4, 9, 8, 251, 252},
		{api.OpNot, 8, 0, 255, 9, 9, 0, 255},
		{api.OpSar, 8, 128, 128, 3, 3, 240, 240},
		{api.OpSar, 8, 128, 128, 3, 4, 0, 255},
		{api.OpEq, 8, 7, 7, 7, 7, 1, 1},
		{api.OpEq, 8, 7, 7, 7, 8, 0, 1},
		{api.OpXor, 8, 9, 9, 9, 9, 0, 0},
		{api.OpOr, 8, 0, 0, 0, 0, 0, 0},
	})
}

// P11.1: Right is the span itself, or the whole.
func TestRight(t *testing.T) {
	for _, c := range []struct {
		w          int
		give, want api.Span
	}{
		{8, of(3, 9), of(3, 9)}, {8, of(9, 9), of(9, 9)}, {8, of(0, 255), of(0, 255)}, {8, of(0, 0), of(0, 0)}, {8, of(255, 255), of(255, 255)},
		{8, of(9, 8), of(0, 255)}, {8, of(255, 0), of(0, 255)}, {8, of(3, 256), of(0, 255)}, {8, of(256, 256), of(0, 255)}, {8, of(300, 3), of(0, 255)}, {8, of(3, all), of(0, 255)},
		{1, of(0, 1), of(0, 1)}, {1, of(1, 1), of(1, 1)}, {1, of(1, 0), of(0, 1)}, {1, of(1, 2), of(0, 1)}, {1, of(2, 2), of(0, 1)},
		{63, of(5, 1<<63-1), of(5, 1<<63-1)}, {63, of(5, 1<<63), of(0, 1<<63-1)},
		{64, of(5, all), of(5, all)}, {64, of(all, all), of(all, all)}, {64, of(all, all-1), of(0, all)},
	} {
		if got := Right(c.w, c.give); got != c.want {
			t.Error(c, got)
		}
	}
}

// P11.1: spans that count as the whole, wherever they are handed in.
func TestWholeWhereverHandedIn(t *testing.T) {
	for _, w := range []int{1, 8, 33, 64} {
		whole := of(0, word.Mask(w))
		wrong := []api.Span{of(1, 0), of(word.Mask(w), word.Mask(w)-1), of(all, 0)}
		if w < 64 {
			wrong = append(wrong, of(0, word.Mask(w)+1), of(1, all), of(word.Mask(w)+1, word.Mask(w)+1))
		}
		for _, bad := range wrong {
			for _, s := range []api.Span{of(0, 0), of(1, 1), of(0, 1), whole, bad} {
				for _, op := range operations() {
					if Apply(op, w, bad, s) != Apply(op, w, whole, s) || Apply(op, w, s, bad) != Apply(op, w, s, whole) {
						t.Error("apply", op, w, bad, s)
					}
				}
				if got, both := Meet(w, bad, s); got != Right(w, s) || !both {
					t.Error("meet first", w, bad, s, got, both)
				}
				if got, both := Meet(w, s, bad); got != Right(w, s) || !both {
					t.Error("meet second", w, s, bad, got, both)
				}
				if got := Join(w, bad, s); got != whole {
					t.Error("join first", w, bad, s, got)
				}
				if got := Join(w, s, bad); got != whole {
					t.Error("join second", w, s, bad, got)
				}
			}
			for _, x := range ends(w) {
				if !Has(w, bad, x) {
					t.Error("has", w, bad, x)
				}
			}
		}
	}
}

// P11.1: Has of words at both ends, next to them, and between; words are cut first.
func TestHas(t *testing.T) {
	for _, c := range []struct {
		w    int
		s    api.Span
		x    uint64
		want bool
	}{
		{8, of(10, 20), 9, false}, {8, of(10, 20), 10, true}, {8, of(10, 20), 11, true}, {8, of(10, 20), 15, true},
		{8, of(10, 20), 19, true}, {8, of(10, 20), 20, true}, {8, of(10, 20), 21, false},
		{8, of(7, 7), 6, false}, {8, of(7, 7), 7, true}, {8, of(7, 7), 8, false},
		{8, of(0, 0), 0, true}, {8, of(0, 0), 255, false}, {8, of(255, 255), 255, true}, {8, of(255, 255), 0, false},
		{8, of(10, 20), 266, true}, {8, of(10, 20), 265, false}, {8, of(10, 20), 277, false}, {8, of(0, 0), 256, true}, {8, of(255, 255), all, true},
		{1, of(0, 0), 2, true}, {1, of(1, 1), 2, false}, {1, of(1, 1), 3, true},
		{64, of(5, all), 4, false}, {64, of(5, all), all, true}, {64, of(5, all-1), all, false}, {64, of(0, 1<<63), 1 << 63, true}, {64, of(0, 1<<63), 1<<63 + 1, false},
	} {
		if got := Has(c.w, c.s, c.x); got != c.want {
			t.Error(c, got)
		}
	}
}

// P11.1: Meet and Join of spans that share words, touch, lie apart, and lie one in the other.
func TestMeetAndJoin(t *testing.T) {
	for _, c := range []struct {
		w          int
		x, y, meet api.Span
		both       bool
		join       api.Span
	}{
		{8, of(3, 9), of(5, 12), of(5, 9), true, of(3, 12)},
		{8, of(3, 9), of(9, 12), of(9, 9), true, of(3, 12)},
		{8, of(3, 9), of(10, 12), api.Span{}, false, of(3, 12)},
		{8, of(3, 9), of(100, 255), api.Span{}, false, of(3, 255)},
		{8, of(3, 9), of(5, 6), of(5, 6), true, of(3, 9)},
		{8, of(3, 9), of(3, 9), of(3, 9), true, of(3, 9)},
		{8, of(3, 9), of(3, 5), of(3, 5), true, of(3, 9)},
		{8, of(3, 9), of(7, 9), of(7, 9), true, of(3, 9)},
		{8, of(4, 4), of(4, 4), of(4, 4), true, of(4, 4)},
		{8, of(4, 4), of(5, 5), api.Span{}, false, of(4, 5)},
		{8, of(0, 255), of(7, 9), of(7, 9), true, of(0, 255)},
		{1, of(0, 0), of(1, 1), api.Span{}, false, of(0, 1)},
		{64, of(5, all), of(0, 1<<63), of(5, 1<<63), true, of(0, all)},
		{64, of(0, 0), of(all, all), api.Span{}, false, of(0, all)},
	} {
		for _, turned := range []bool{false, true} {
			x, y := c.x, c.y
			if turned {
				x, y = y, x
			}
			if got, both := Meet(c.w, x, y); got != c.meet || both != c.both {
				t.Error("meet", c.w, x, y, got, both)
			}
			if got := Join(c.w, x, y); got != c.join {
				t.Error("join", c.w, x, y, got)
			}
		}
	}
}

// P11.1: each operation as the chapter's rules say, of all spans of small widths, and of spans at the edges of greater ones.
func TestApplyAgainstTheRules(t *testing.T) {
	checkPairs(t, 1, 1, spans(3), spans(3))
	checkPairs(t, 2, 2, spans(5), spans(5))
	checkPairs(t, 3, 3, spans(9), spans(9))
	for _, w := range []int{4, 7, 8, 9, 31, 32, 33, 63, 64} {
		m, many := word.Mask(w), edgeSpans(w)
		few := []api.Span{of(0, 0), of(0, 1), of(1, 2), of(1, 7), of(2, m), of(m-1, m), of(5, 4), of(m/2, m/2+1)}
		checkPairs(t, w, w, many, few)
		checkPairs(t, w, w, few, many)
	}
}

// P11.1: of what is no operation of layer 1, the point 0.
func TestNoOperation(t *testing.T) {
	none := []int{
		math.MinInt, -5, -1, api.OpConst, api.OpInput, api.OpReg, api.OpMem, api.OpBlank, api.OpWide, api.OpLow,
		api.OpIf, api.OpGet, api.OpPut, 25, 256 + api.OpAdd, math.MaxInt,
	}
	for _, op := range none {
		for _, w := range []int{-1, 0, 1, 8, 64, 65} {
			for _, s := range []api.Span{of(0, 0), of(1, 1), of(3, 9), of(9, 3), of(3, all), of(all, all)} {
				for _, u := range []api.Span{of(0, 0), of(1, 1), of(3, 9), of(9, 3), of(0, all)} {
					if got := Apply(op, w, s, u); got != of(0, 0) {
						t.Error(op, w, s, u, got)
					}
				}
			}
		}
	}
}

// P11.1: below 1 a width counts as 1, above 64 as 64.
func TestWidthsOutside(t *testing.T) {
	for w, counts := range map[int]int{0: 1, -1: 1, -64: 1, math.MinInt: 1, 65: 64, 128: 64, math.MaxInt: 64} {
		l := []api.Span{of(0, 0), of(1, 1), of(0, 1), of(1, 0), of(1, 2), of(3, 64), of(62, 63), of(1<<62, 1<<63), of(1<<63, all), of(0, all)}
		checkPairs(t, w, counts, l, l)
		for _, x := range l {
			if Right(w, x) != right(counts, x).answer() {
				t.Error("right", w, x)
			}
			for _, y := range l {
				got, both := Meet(w, x, y)
				want, wantBoth := Meet(counts, x, y)
				if got != want || both != wantBoth || Join(w, x, y) != Join(counts, x, y) {
					t.Error("meet or join", w, x, y)
				}
			}
			for _, word := range ends(counts) {
				if Has(w, x, word) != Has(counts, x, word) {
					t.Error("has", w, x, word)
				}
			}
		}
	}
}

// P11.2: of words in spans the answer of each operation is in the answer's span.
func checkWords(t *testing.T, w int, first, second []api.Span, words func(api.Span) []uint64) {
	t.Helper()
	for _, s := range first {
		for _, u := range second {
			for _, op := range operations() {
				answer := Apply(op, w, s, u)
				for _, x := range words(Right(w, s)) {
					for _, y := range words(Right(w, u)) {
						if p := word.Apply(op, w, x, y); p < answer.Lo || p > answer.Hi {
							t.Fatal(op, w, s, u, x, y, answer, p)
						}
					}
				}
			}
		}
	}
}

// P11.2: all words of all spans of widths 1 and 2, and of small spans of width 8 around its edges.
func TestAllWords(t *testing.T) {
	checkWords(t, 1, spans(2), spans(2), allWords)
	checkWords(t, 2, spans(4), spans(4), allWords)
	var small []api.Span
	for _, lo := range []uint64{0, 1, 2, 5, 6, 7, 15, 63, 64, 100, 120, 126, 127, 128, 129, 200, 240, 250, 254, 255} {
		for _, more := range []uint64{0, 1, 2, 5, 12} {
			small = append(small, of(lo, min(lo+more, 255)))
		}
	}
	checkWords(t, 8, small, small, allWords)
}

// P11.2: words at the ends, next to them, and between, of spans of greater widths.
func TestSomeWords(t *testing.T) {
	for _, w := range []int{5, 8, 17, 32, 63, 64} {
		m := word.Mask(w)
		few := []api.Span{
			of(0, 0), of(0, 1), of(1, 2), of(2, 5), of(uint64(w)-1, uint64(w)), of(uint64(w), uint64(w)+3), of(0, m/2), of(m/2, m/2+1),
			of(m/2+1, m), of(m/4, m/4*3), of(m-3, m), of(m, m), of(1, m), of(0, m), of(m, 0), of(1<<(w/2), 1<<(w/2)+9), of(m>>(w/2), m>>(w/2)+1),
		}
		checkWords(t, w, edgeSpans(w), few, someWords)
		checkWords(t, w, few, edgeSpans(w), someWords)
	}
}

// P11.2: what is in both is in what meets, and nothing else is; what is in one is in what joins.
func TestWordsOfMeetAndJoin(t *testing.T) {
	for w := 1; w <= 3; w++ {
		beyond := uint64(1)<<w + 1
		for _, s := range spans(beyond) {
			for _, u := range spans(beyond) {
				meet, both := Meet(w, s, u)
				join := Join(w, s, u)
				found := false
				for x := range uint64(1) << w {
					inOne, inOther := Has(w, s, x), Has(w, u, x)
					found = found || inOne && inOther
					if (inOne && inOther) != (both && Has(w, meet, x)) || (inOne || inOther) && !Has(w, join, x) {
						t.Fatal(w, s, u, x, meet, both, join)
					}
				}
				if found != both || !both && meet != (api.Span{}) || Right(w, join) != join {
					t.Fatal(w, s, u, meet, both, join)
				}
			}
		}
	}
}
