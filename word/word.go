// Package word is layer 1: words that go round. See shared/doc/01-word.md.
package word

import (
	"math/bits"

	"deadbolt/api"
)

// intBits is how many bits Go's int has on the machines that the limits of package api ask for.
const intBits = 64

// shape is how many bits a kind's words have, and whether the highest of them is a sign; no word has 0 bits.
type shape struct {
	bits   int
	signed bool
}

// shapeOf answers no bits, if there is no such kind.
func shapeOf(kind int) shape {
	var s shape
	switch kind {
	case api.W32:
		s.signed = true
		fallthrough // both kinds of 32 bits differ by the sign alone
	case api.WU32:
		s.bits = 32
	case api.W64:
		s = shape{bits: intBits, signed: true}
	}
	return s
}

// wrap pushes the bits that are too many out at the top: what comes back from there is the sign, or zeros.
func (s shape) wrap(v int) int {
	spare := intBits - s.bits
	if s.signed {
		return v << spare >> spare
	}
	return int(uint64(v) << spare >> spare)
}

// Fits tells whether there is such a kind, and v is a word of it.
func Fits(kind, v int) bool {
	s := shapeOf(kind)
	return s.bits > 0 && s.wrap(v) == v
}

// Wrap makes v a word of that kind.
func Wrap(kind, v int) (int, api.Errno) {
	s := shapeOf(kind)
	if s.bits == 0 {
		return 0, api.ErrArg
	}
	return s.wrap(v), api.OK
}

// Add makes a and b together a word of that kind.
func Add(kind, a, b int) (int, api.Errno) {
	// Go's own sum is off by a multiple of 2^64, and so of every kind's own power: the word is the same.
	return Wrap(kind, a+b)
}

// Bits are the digits of a word in two's complement, the highest first.
func Bits(kind, v int) (string, api.Errno) {
	if !Fits(kind, v) {
		return "", api.ErrArg
	}
	s := shapeOf(kind)
	digits := make([]byte, s.bits)
	// Short words are turned to the top first, so that their highest digit is the next to come round.
	turned := bits.RotateLeft64(uint64(v), intBits-s.bits)
	for i := range s.bits {
		turned = bits.RotateLeft64(turned, 1)
		digits[i] = '0' + byte(turned&1)
	}
	return string(digits), api.OK
}
