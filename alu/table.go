package alu

import (
	"math/bits"

	"caponier/api"
)

const wordBits = 64

// Each kind of operations is a run of api's numbers, so that a table of it is an array that begins with the first.
const (
	firstOfTwo  = api.Add
	lastOfTwo   = api.Remu
	firstOfOne  = api.Addi
	lastOfOne   = api.Srai
	firstBranch = api.Beq
	lastBranch  = api.Bgeu
)

// ofTwo has for each operation of one and a number the one of two that reckons the same.
var ofTwo = [lastOfOne - firstOfOne + 1]int{
	api.Addi - firstOfOne:  api.Add,
	api.Slti - firstOfOne:  api.Slt,
	api.Sltiu - firstOfOne: api.Sltu,
	api.Xori - firstOfOne:  api.Xor,
	api.Ori - firstOfOne:   api.Or,
	api.Andi - firstOfOne:  api.And,
	api.Slli - firstOfOne:  api.Sll,
	api.Srli - firstOfOne:  api.Srl,
	api.Srai - firstOfOne:  api.Sra,
}

// reckoners are the operations of two. Their table is made in a function, since none of functions may stand at package level; as none of them keeps anything, making it costs next to nothing.
func reckoners() [lastOfTwo - firstOfTwo + 1]func(a, b uint64) uint64 {
	return [...]func(a, b uint64) uint64{
		api.Add - firstOfTwo:   func(a, b uint64) uint64 { return a + b },
		api.Sub - firstOfTwo:   func(a, b uint64) uint64 { return a - b },
		api.Sll - firstOfTwo:   func(a, b uint64) uint64 { return a << (b % wordBits) },
		api.Slt - firstOfTwo:   func(a, b uint64) uint64 { return oneIf(less(a, b)) },
		api.Sltu - firstOfTwo:  func(a, b uint64) uint64 { return oneIf(a < b) },
		api.Xor - firstOfTwo:   func(a, b uint64) uint64 { return a ^ b },
		api.Srl - firstOfTwo:   func(a, b uint64) uint64 { return a >> (b % wordBits) },
		api.Sra - firstOfTwo:   func(a, b uint64) uint64 { return uint64(int64(a) >> (b % wordBits)) },
		api.Or - firstOfTwo:    func(a, b uint64) uint64 { return a | b },
		api.And - firstOfTwo:   func(a, b uint64) uint64 { return a & b },
		api.Mul - firstOfTwo:   func(a, b uint64) uint64 { return a * b },
		api.Mulhu - firstOfTwo: func(a, b uint64) uint64 { return upper(a, b) },
		api.Div - firstOfTwo:   func(a, b uint64) uint64 { return uint64(quotient(int64(a), int64(b))) },
		api.Divu - firstOfTwo:  func(a, b uint64) uint64 { return quotientU(a, b) },
		api.Rem - firstOfTwo:   func(a, b uint64) uint64 { return uint64(rest(int64(a), int64(b))) },
		api.Remu - firstOfTwo:  func(a, b uint64) uint64 { return restU(a, b) },
	}
}

// conditions are what the branches ask.
func conditions() [lastBranch - firstBranch + 1]func(a, b uint64) bool {
	return [...]func(a, b uint64) bool{
		api.Beq - firstBranch:  func(a, b uint64) bool { return a == b },
		api.Bne - firstBranch:  func(a, b uint64) bool { return a != b },
		api.Blt - firstBranch:  func(a, b uint64) bool { return less(a, b) },
		api.Bge - firstBranch:  func(a, b uint64) bool { return !less(a, b) },
		api.Bltu - firstBranch: func(a, b uint64) bool { return a < b },
		api.Bgeu - firstBranch: func(a, b uint64) bool { return a >= b },
	}
}

// less tells whether one is less than the other, signed.
func less(a, b uint64) bool {
	return int64(a) < int64(b)
}

// oneIf is 1 where something holds, else 0.
func oneIf(holds bool) uint64 {
	if holds {
		return 1
	}
	return 0
}

// upper is the upper half of a product without signs.
func upper(a, b uint64) uint64 {
	high, _ := bits.Mul64(a, b)
	return high
}

// quotient is rounded towards 0, as the language's own is. The least number by -1 wraps to itself there, too.
func quotient(a, b int64) int64 {
	if b == 0 {
		return -1
	}
	return a / b
}

// quotientU is a quotient without signs.
func quotientU(a, b uint64) uint64 {
	if b == 0 {
		return 1<<wordBits - 1
	}
	return a / b
}

// rest has the sign of what is divided, as the language's own has; it is 0 of the least number by -1.
func rest(a, b int64) int64 {
	if b == 0 {
		return a
	}
	return a % b
}

// restU is a rest without signs.
func restU(a, b uint64) uint64 {
	if b == 0 {
		return a
	}
	return a % b
}
