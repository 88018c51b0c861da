// Package bits is layer 1: parts of words, and signs. See shared/doc/01-bits.md.
package bits

const (
	wordBits  = 64
	wordBytes = 8
	byteBits  = 8
)

// Field: a field.
func Field(v uint64, from, n int) (uint64, bool) {
	if !within(from, n) {
		return 0, false
	}
	return v >> from & low(n), true
}

// Put: a word with another field.
func Put(v uint64, from, n int, x uint64) (uint64, bool) {
	if !within(from, n) {
		return 0, false
	}
	return v&^(low(n)<<from) | x&low(n)<<from, true
}

// Sign: a word, signed by so many bits.
func Sign(v uint64, n int) int64 {
	if !signs(n) {
		return 0
	}
	// The shift back is one of a signed number: it repeats the field's highest bit.
	return int64(v<<(wordBits-n)) >> (wordBits - n)
}

// Fits: whether a number is itself, signed.
func Fits(x int64, n int) bool {
	return signs(n) && Sign(uint64(x), n) == x
}

// FitsU: whether a number has no more bits.
func FitsU(x uint64, n int) bool {
	return signs(n) && x&low(n) == x
}

// Bytes: the lowest bytes.
func Bytes(v uint64, n int) []byte {
	if n < 0 || n > wordBytes {
		return nil
	}
	b := make([]byte, n)
	for i := range n {
		b[i] = byte(v >> (byteBits * i))
	}
	return b
}

// Word: the number that bytes are.
func Word(b []byte) (uint64, bool) {
	if len(b) > wordBytes {
		return 0, false
	}
	v := uint64(0)
	for i := range len(b) {
		v |= uint64(b[i]) << (byteBits * i)
	}
	return v, true
}

// within tells whether a word has n bits from a bit on. It subtracts, since from and n together could wrap.
func within(from, n int) bool {
	return from >= 0 && n >= 0 && n <= wordBits-from
}

// signs tells whether a number can be signed by n bits: without a bit there is no highest one.
func signs(n int) bool {
	return n >= 1 && n <= wordBits
}

// low is the word whose lowest n bits are 1. A shift by all 64 leaves 0, and 0 less 1 is all ones.
func low(n int) uint64 {
	return 1<<n - 1
}
