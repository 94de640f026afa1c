// Package word is layer 1: whole numbers of a fixed width. See shared/doc/01-word.md.
package word

import "lockstep/api"

// May: whether it is a width.
func May(bits int) bool {
	switch bits {
	case 1, 8, 16, 32, 64:
		return true
	}
	return false
}

// Cut: a number modulo 2^width.
func Cut(v uint64, bits int) uint64 {
	if !May(bits) {
		return 0
	}
	return v << (64 - bits) >> (64 - bits)
}

// Signed: a number as a signed one.
func Signed(v uint64, bits int) int64 {
	if !May(bits) {
		return 0
	}
	// A signed number shifted right is filled up with its highest bit.
	return int64(v<<(64-bits)) >> (64 - bits)
}

// Two: whether it is an operation of two.
func Two(kind, bits int) bool {
	return api.Add <= kind && kind <= api.Slt && May(bits)
}

// Do: what an operation of two comes to. Arg, Trapped.
func Do(kind, bits int, a, b uint64) (uint64, api.Code) {
	if !Two(kind, bits) {
		return 0, api.Arg
	}
	a, b = Cut(a, bits), Cut(b, bits)
	if kind == api.Div && b == 0 {
		return 0, api.Trapped
	}
	return Cut(apply(kind, bits, a, b), bits), api.OK
}

// Zext: a number of a width as one of a greater one. Arg.
func Zext(v uint64, from, to int) (uint64, api.Code) {
	if !May(from) || !May(to) || to <= from {
		return 0, api.Arg
	}
	return Cut(v, from), api.OK
}

// Trunc: a number of a width as one of a lesser one. Arg.
func Trunc(v uint64, from, to int) (uint64, api.Code) {
	if !May(from) || !May(to) || to >= from {
		return 0, api.Arg
	}
	return Cut(v, to), api.OK
}

// apply is what a kind of two comes to, not yet cut; a and b are cut, and a
// divisor isn't 0: Do has seen to that.
func apply(kind, bits int, a, b uint64) uint64 {
	// The array stands here, not in a function that answers it, for the
	// closures then live no longer than the call, and nothing is allocated.
	deeds := [api.Slt + 1]func(a, b uint64) uint64{
		api.Add: func(a, b uint64) uint64 { return a + b },
		api.Sub: func(a, b uint64) uint64 { return a - b },
		api.Mul: func(a, b uint64) uint64 { return a * b },
		api.Div: func(a, b uint64) uint64 { return a / b },
		api.And: func(a, b uint64) uint64 { return a & b },
		api.Or:  func(a, b uint64) uint64 { return a | b },
		api.Xor: func(a, b uint64) uint64 { return a ^ b },
		api.Shl: func(a, b uint64) uint64 {
			if b >= uint64(bits) {
				return 0
			}
			return a << b
		},
		api.Shr: func(a, b uint64) uint64 {
			if b >= uint64(bits) {
				return 0
			}
			return a >> b
		},
		api.Eq:  func(a, b uint64) uint64 { return truth(a == b) },
		api.Ult: func(a, b uint64) uint64 { return truth(a < b) },
		api.Slt: func(a, b uint64) uint64 { return truth(Signed(a, bits) < Signed(b, bits)) },
	}
	return deeds[kind](a, b)
}

// truth is 1 of what is so, else 0.
func truth(so bool) uint64 {
	if so {
		return 1
	}
	return 0
}
