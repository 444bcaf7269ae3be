// Package word is layer 1: words of some width, and what operations answer of them. See shared/doc/01-word.md.
package word

import "backreach/api"

// width is w as it counts, so that any number may be handed in as one.
func width(w int) int {
	return min(max(w, 1), 64)
}

// highest is the bit that makes a word's sign negative.
func highest(w int) uint64 {
	return 1 << (width(w) - 1)
}

// Mask is the greatest word of a width.
func Mask(w int) uint64 {
	return ^uint64(0) >> (64 - width(w))
}

// Cut is what is left of x when it is divided by 2 to the width.
func Cut(w int, x uint64) uint64 {
	return x & Mask(w)
}

// Sign is the word x, cut, taken as a number that may be negative.
func Sign(w int, x uint64) int64 {
	above := 64 - width(w)
	return int64(x<<above) >> above
}

// Apply is what an operation answers of two words, or 0 if op is no operation.
func Apply(op, w int, x, y uint64) uint64 {
	x, y = Cut(w, x), Cut(w, y)
	switch op {
	case api.OpNot:
		return Cut(w, ^x)
	case api.OpSub:
		y = -y
		fallthrough
	case api.OpAdd:
		return Cut(w, x+y)
	case api.OpMul:
		return Cut(w, x*y)
	case api.OpDiv, api.OpRem:
		return divide(op, w, x, y)
	case api.OpAnd:
		return x & y
	case api.OpOr:
		return x | y
	case api.OpXor:
		return x ^ y
	case api.OpShl, api.OpShr, api.OpSar:
		return shift(op, w, x, y)
	case api.OpEq, api.OpLess, api.OpBelow:
		return compare(op, w, x, y)
	}
	return 0
}

// divide answers OpDiv and OpRem of two words.
func divide(op, w int, x, y uint64) uint64 {
	quotient, rest := Mask(w), x
	if y != 0 {
		quotient, rest = x/y, x%y
	}
	if op == api.OpRem {
		return rest
	}
	return quotient
}

// shift answers OpShl, OpShr and OpSar of two words. Moving by the width or more needs no case of its own: nothing is kept then.
func shift(op, w int, x, y uint64) uint64 {
	mask := Mask(w)
	brought := func(room uint64) uint64 { return 0 }
	moved, kept := x<<y, mask<<y
	switch op {
	case api.OpSar:
		if x&highest(w) != 0 {
			brought = func(room uint64) uint64 { return room }
		}
		fallthrough
	case api.OpShr:
		moved, kept = x>>y, mask>>y
	}
	return Cut(w, moved|brought(mask&^kept))
}

// compare answers OpEq, OpLess and OpBelow of two words.
func compare(op, w int, x, y uint64) uint64 {
	holds := false
	switch op {
	case api.OpEq:
		holds = x == y
	case api.OpBelow:
		// With the highest bits turned, words stand in the order of their signs.
		x, y = x^highest(w), y^highest(w)
		fallthrough
	case api.OpLess:
		holds = x < y
	}
	if holds {
		return 1
	}
	return 0
}
