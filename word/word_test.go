package word

import (
	"math"
	"math/big"
	"testing"

	"backreach/api"
)

const all = math.MaxUint64

func operations() []int {
	return []int{
		api.OpNot, api.OpAdd, api.OpSub, api.OpMul, api.OpDiv, api.OpRem, api.OpAnd, api.OpOr, api.OpXor,
		api.OpShl, api.OpShr, api.OpSar, api.OpEq, api.OpLess, api.OpBelow,
	}
}

// samples are numbers around the edges of a width, some of which must be cut first.
func samples(w int) []uint64 {
	top := uint64(1) << (w - 1)
	return []uint64{
		0, 1, 2, 3, 7, 100, 200, uint64(w) - 1, uint64(w), uint64(w) + 1, 63, 64, 65, 127, 128, 255, 256, 257,
		top - 1, top, top + 1, top | 1<<(w/2), 2*top - 1, 2 * top, 2*top + 1, all - top, all - 1, all,
		0x123456789abcdef0, 0xfedcba9876543210, 0xaaaaaaaaaaaaaaaa, 0x5555555555555555,
	}
}

func number(x uint64) *big.Int { return new(big.Int).SetUint64(x) }

func power(n uint) *big.Int { return new(big.Int).Lsh(big.NewInt(1), n) }

func cutNumber(w int, x *big.Int) *big.Int { return new(big.Int).Mod(x, power(uint(w))) }

func signNumber(w int, x *big.Int) *big.Int {
	if x.Cmp(power(uint(w-1))) < 0 {
		return x
	}
	return new(big.Int).Sub(x, power(uint(w)))
}

func truth(holds bool) *big.Int {
	if holds {
		return big.NewInt(1)
	}
	return new(big.Int)
}

// expected works the chapter's table out in numbers without a width; w is from 1 to 64.
func expected(op, w int, a, b uint64) uint64 {
	x, y := cutNumber(w, number(a)), cutNumber(w, number(b))
	greatest := new(big.Int).Sub(power(uint(w)), big.NewInt(1))
	by := uint(64)
	if y.Cmp(big.NewInt(64)) < 0 {
		by = uint(y.Uint64())
	}
	z := new(big.Int)
	switch op {
	case api.OpNot:
		z.Sub(greatest, x)
	case api.OpAdd:
		z.Add(x, y)
	case api.OpSub:
		z.Sub(x, y)
	case api.OpMul:
		z.Mul(x, y)
	case api.OpDiv:
		z.Set(greatest)
		if y.Sign() != 0 {
			z.Div(x, y)
		}
	case api.OpRem:
		z.Set(x)
		if y.Sign() != 0 {
			z.Mod(x, y)
		}
	case api.OpAnd:
		z.And(x, y)
	case api.OpOr:
		z.Or(x, y)
	case api.OpXor:
		z.Xor(x, y)
	case api.OpShl:
		z.Mul(x, power(by))
	case api.OpShr:
		z.Div(x, power(by))
	case api.OpSar:
		z.Div(signNumber(w, x), power(by))
	case api.OpEq:
		z = truth(x.Cmp(y) == 0)
	case api.OpLess:
		z = truth(x.Cmp(y) < 0)
	case api.OpBelow:
		z = truth(signNumber(w, x).Cmp(signNumber(w, y)) < 0)
	}
	return cutNumber(w, z).Uint64()
}

// P1.1: the chapter's examples.
func TestExamples(t *testing.T) {
	if got := Sign(8, 200); got != -56 {
		t.Error("sign", got)
	}
	for _, c := range []struct {
		op         int
		x, y, want uint64
	}{
		{api.OpAdd, 200, 100, 44},
		{api.OpSub, 200, 100, 100},
		{api.OpDiv, 200, 100, 2},
		{api.OpSar, 200, 4, 252},
	} {
		if got := Apply(c.op, 8, c.x, c.y); got != c.want {
			t.Error(c, got)
		}
	}
}

// P1.1: Mask, Cut and Sign of each width.
func TestMaskCutSign(t *testing.T) {
	for w := 1; w <= 64; w++ {
		greatest := new(big.Int).Sub(power(uint(w)), big.NewInt(1)).Uint64()
		if got := Mask(w); got != greatest {
			t.Error("mask", w, got)
		}
		for _, x := range samples(w) {
			word := cutNumber(w, number(x))
			if got := Cut(w, x); got != word.Uint64() {
				t.Error("cut", w, x, got)
			}
			if got, want := Sign(w, x), signNumber(w, word).Int64(); got != want {
				t.Error("sign", w, x, got, want)
			}
		}
	}
}

// P1.1: signs on both sides of the highest bit, of numbers that must be cut too.
func TestSignAtHighestBit(t *testing.T) {
	for _, c := range []struct {
		w    int
		x    uint64
		want int64
	}{
		{1, 0, 0}, {1, 1, -1}, {1, 2, 0}, {1, all, -1},
		{8, 127, 127}, {8, 128, -128}, {8, 255, -1}, {8, 256, 0}, {8, 384, -128}, {8, 511, -1},
		{63, 1<<62 - 1, 1<<62 - 1}, {63, 1 << 62, -1 << 62}, {63, 1 << 63, 0},
		{64, math.MaxInt64, math.MaxInt64}, {64, 1 << 63, math.MinInt64}, {64, all, -1},
	} {
		if got := Sign(c.w, c.x); got != c.want {
			t.Error(c, got)
		}
	}
}

// P1.1: below 1 a width counts as 1, above 64 as 64.
func TestWidthsOutside(t *testing.T) {
	for w, counts := range map[int]int{0: 1, -1: 1, -64: 1, math.MinInt: 1, 65: 64, 128: 64, math.MaxInt: 64} {
		if Mask(w) != Mask(counts) {
			t.Error("mask", w)
		}
		for _, x := range samples(counts) {
			if Cut(w, x) != Cut(counts, x) || Sign(w, x) != Sign(counts, x) {
				t.Error("cut or sign", w, x)
			}
			for _, y := range samples(counts) {
				for _, op := range operations() {
					if got, want := Apply(op, w, x, y), expected(op, counts, x, y); got != want {
						t.Fatal("apply", op, w, x, y, got, want)
					}
				}
			}
		}
	}
}

// P1.1: each operation, of all pairs of small widths, and of pairs at the edges of every width.
func TestApply(t *testing.T) {
	check := func(w int, x, y uint64) {
		for _, op := range operations() {
			if got, want := Apply(op, w, x, y), expected(op, w, x, y); got != want {
				t.Fatal(op, w, x, y, got, want)
			}
		}
	}
	for w := 1; w <= 5; w++ {
		for x := uint64(0); x < 2<<w; x++ {
			for y := uint64(0); y < 2<<w; y++ {
				check(w, x, y)
			}
		}
	}
	for w := 1; w <= 64; w++ {
		for _, x := range samples(w) {
			for _, y := range samples(w) {
				check(w, x, y)
			}
		}
	}
}

// P1.1: the edges that the chapter names, as plain numbers.
func TestApplyEdges(t *testing.T) {
	for _, c := range []struct {
		op, w      int
		x, y, want uint64
	}{
		{api.OpNot, 8, 15, 0, 240}, {api.OpNot, 8, 15, all, 240}, {api.OpNot, 64, 0, 0, all}, {api.OpNot, 1, 2, 0, 1},
		{api.OpSub, 8, 0, 1, 255}, {api.OpSub, 64, 0, 1, all}, {api.OpAdd, 64, all, 2, 1}, {api.OpMul, 64, 1 << 63, 2, 0},
		{api.OpDiv, 8, 7, 0, 255}, {api.OpDiv, 8, 7, 256, 255}, {api.OpDiv, 64, 7, 0, all}, {api.OpDiv, 1, 0, 0, 1}, {api.OpDiv, 8, 519, 258, 3},
		{api.OpRem, 8, 7, 0, 7}, {api.OpRem, 8, 263, 256, 7}, {api.OpRem, 64, all, 0, all}, {api.OpRem, 8, 200, 7, 4},
		{api.OpShl, 8, 1, 7, 128}, {api.OpShl, 8, 1, 8, 0}, {api.OpShl, 8, 1, 255, 0}, {api.OpShl, 8, 1, 256, 1}, {api.OpShl, 64, 1, 63, 1 << 63}, {api.OpShl, 64, 1, 64, 0},
		{api.OpShr, 8, 384, 7, 1}, {api.OpShr, 8, 128, 8, 0}, {api.OpShr, 8, 128, 256, 128}, {api.OpShr, 64, all, 63, 1}, {api.OpShr, 64, all, all, 0},
		{api.OpSar, 8, 128, 0, 128}, {api.OpSar, 8, 128, 1, 192}, {api.OpSar, 8, 128, 8, 255}, {api.OpSar, 8, 64, 8, 0}, {api.OpSar, 8, 128, 256, 128},
		{api.OpSar, 64, 1 << 63, 63, all}, {api.OpSar, 64, 1 << 63, 64, all}, {api.OpSar, 64, 1<<63 - 1, all, 0}, {api.OpSar, 1, 1, 1, 1}, {api.OpSar, 1, 0, 1, 0},
		{api.OpEq, 8, 256, 0, 1}, {api.OpEq, 9, 256, 0, 0}, {api.OpLess, 8, 256, 255, 1}, {api.OpLess, 8, 255, 256, 0}, {api.OpLess, 64, 1<<63 - 1, 1 << 63, 1},
		{api.OpBelow, 8, 255, 0, 1}, {api.OpBelow, 8, 127, 128, 0}, {api.OpBelow, 64, 1 << 63, 1<<63 - 1, 1}, {api.OpBelow, 64, all, all, 0}, {api.OpBelow, 1, 1, 0, 1},
	} {
		if got := Apply(c.op, c.w, c.x, c.y); got != c.want {
			t.Error(c, got)
		}
	}
}

// P1.1: of what is no operation, 0.
func TestNoOperation(t *testing.T) {
	none := []int{
		math.MinInt, -5, -1, api.OpConst, api.OpInput, api.OpReg, api.OpMem, api.OpBlank, api.OpWide, api.OpLow,
		api.OpIf, api.OpGet, api.OpPut, 25, 256 + api.OpAdd, math.MaxInt,
	}
	for _, op := range none {
		for _, w := range []int{-1, 0, 1, 8, 63, 64, 65} {
			for _, x := range samples(8) {
				if got := Apply(op, w, x, 3); got != 0 {
					t.Error(op, w, x, got)
				}
			}
		}
	}
}

// P1.2: sums and products are a ring's.
func TestRing(t *testing.T) {
	for w := 1; w <= 64; w++ {
		add := func(x, y uint64) uint64 { return Apply(api.OpAdd, w, x, y) }
		sub := func(x, y uint64) uint64 { return Apply(api.OpSub, w, x, y) }
		mul := func(x, y uint64) uint64 { return Apply(api.OpMul, w, x, y) }
		for _, x := range samples(w) {
			if add(x, 0) != Cut(w, x) || mul(x, 1) != Cut(w, x) || add(x, sub(0, x)) != 0 {
				t.Fatal("neutral or opposite", w, x)
			}
			for _, y := range samples(w) {
				if add(x, y) != add(y, x) || mul(x, y) != mul(y, x) || add(sub(x, y), y) != Cut(w, x) {
					t.Fatal("order or difference", w, x, y)
				}
				for _, z := range samples(w)[15:25] {
					if add(add(x, y), z) != add(x, add(y, z)) || mul(mul(x, y), z) != mul(x, mul(y, z)) {
						t.Fatal("grouping", w, x, y, z)
					}
					if mul(x, add(y, z)) != add(mul(x, y), mul(x, z)) {
						t.Fatal("product of a sum", w, x, y, z)
					}
				}
			}
		}
	}
}

// P1.2: x is y times its quotient, and its rest, which is less than y (where y is not 0).
func TestQuotientAndRest(t *testing.T) {
	for w := 1; w <= 64; w++ {
		for _, x := range samples(w) {
			for _, y := range samples(w) {
				quotient, rest := Apply(api.OpDiv, w, x, y), Apply(api.OpRem, w, x, y)
				whole := Apply(api.OpAdd, w, Apply(api.OpMul, w, y, quotient), rest)
				if whole != Cut(w, x) {
					t.Fatal("whole", w, x, y, quotient, rest)
				}
				if Cut(w, y) != 0 && Apply(api.OpLess, w, rest, y) != 1 {
					t.Fatal("rest", w, x, y, rest)
				}
			}
		}
	}
}

// P1.2: of x and y just one is less, or they are the same; so too of their signs.
func TestOrder(t *testing.T) {
	for w := 1; w <= 64; w++ {
		for _, x := range samples(w) {
			for _, y := range samples(w) {
				same := Apply(api.OpEq, w, x, y)
				for _, op := range []int{api.OpLess, api.OpBelow} {
					if Apply(op, w, x, y)+Apply(op, w, y, x)+same != 1 {
						t.Fatal(op, w, x, y)
					}
				}
				if (Sign(w, x) < Sign(w, y)) != (Apply(api.OpBelow, w, x, y) == 1) {
					t.Fatal("sign", w, x, y)
				}
			}
		}
	}
}

// P1.2: the low bits of a sum, a difference, a product hang on low bits alone.
func TestLowBits(t *testing.T) {
	for w := 1; w <= 64; w++ {
		for _, low := range []int{1, (w + 1) / 2, w} {
			for _, x := range samples(w) {
				for _, y := range samples(w) {
					for _, op := range []int{api.OpAdd, api.OpSub, api.OpMul} {
						if Cut(low, Apply(op, w, x, y)) != Apply(op, low, x, y) {
							t.Fatal(op, w, low, x, y)
						}
					}
				}
			}
		}
	}
}
