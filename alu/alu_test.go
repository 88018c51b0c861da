package alu_test

import (
	"math"
	"math/big"
	"testing"

	"caponier/alu"
	"caponier/api"
)

const (
	least = uint64(1) << 63 // the least signed number
	most  = least - 1       // the greatest signed one
	all   = uint64(math.MaxUint64)
)

// neg is a negative number as a word.
func neg(n uint64) uint64 {
	return 0 - n
}

// noise are words without a pattern, the same in each run.
func noise() func() uint64 {
	x := uint64(88172645463325252)
	return func() uint64 {
		x ^= x << 13
		x ^= x >> 7
		x ^= x << 17
		return x
	}
}

// edges are the numbers at which operations turn.
func edges() []uint64 {
	return []uint64{
		0, 1, 2, 3, 7, 10, 31, 32, 33, 63, 64, 65, 127, 128, 1 << 31, 1<<32 - 1, 1 << 32, 1<<32 + 1, 1 << 62,
		most - 1, most, least, least + 1, all - 1, all, neg(3), neg(7), neg(63), neg(64), neg(1 << 31), neg(1 << 32),
		0x0123456789abcdef, 0xfedcba9876543210, 0xaaaaaaaaaaaaaaaa, 0x5555555555555555,
	}
}

// pairs are all edges with each other, and numbers of all lengths without a pattern.
func pairs() [][2]uint64 {
	var l [][2]uint64
	for _, a := range edges() {
		for _, b := range edges() {
			l = append(l, [2]uint64{a, b})
		}
	}
	next := noise()
	for range 2000 {
		a, b := next(), next()
		l = append(l, [2]uint64{a >> (next() >> 8 % 64), b >> (next() >> 8 % 64)})
		l = append(l, [2]uint64{neg(a >> (next() >> 8 % 64)), b}, [2]uint64{a, neg(b >> (next() >> 8 % 64))})
	}
	return l
}

// others are all numbers of operations but those from one to another, and numbers that are none.
func others(from, to int) []int {
	l := []int{-1, -2, -16, -43, 43, 44, 64, 127, 128, 255, 256, 1 << 16, 1 << 32, 1<<32 + api.Add, 1<<32 + api.Addi, 1<<32 + api.Beq, math.MaxInt, math.MaxInt - 1, math.MinInt, math.MinInt + 1, math.MinInt + api.Addi, math.MinInt + api.Beq}
	for op := range api.Ebreak + 1 {
		if op < from || op > to {
			l = append(l, op)
		}
	}
	return l
}

func unsigned(v uint64) *big.Int {
	return new(big.Int).SetUint64(v)
}

func signed(v uint64) *big.Int {
	return big.NewInt(int64(v))
}

// modulo is a number without bounds modulo 2^64.
func modulo(x *big.Int) uint64 {
	return new(big.Int).And(x, unsigned(all)).Uint64()
}

func power(n uint64) *big.Int {
	return new(big.Int).Lsh(big.NewInt(1), uint(n))
}

// rounded is a quotient of numbers without bounds, rounded towards 0, and its rest.
func rounded(x, y *big.Int) (*big.Int, *big.Int) {
	q, r := new(big.Int).QuoRem(new(big.Int).Abs(x), new(big.Int).Abs(y), new(big.Int))
	if x.Sign()*y.Sign() < 0 {
		q.Neg(q)
	}
	if x.Sign() < 0 {
		r.Neg(r)
	}
	return q, r
}

func boolWord(b bool) uint64 {
	if b {
		return 1
	}
	return 0
}

// slowDivide reckons the divisions by the chapter's own words.
func slowDivide(op int, a, b uint64) uint64 {
	var q, r *big.Int
	switch {
	case b == 0:
		q, r = unsigned(all), unsigned(a)
	case op == api.Div || op == api.Rem:
		q, r = rounded(signed(a), signed(b))
	default:
		q, r = rounded(unsigned(a), unsigned(b))
	}
	if op == api.Div || op == api.Divu {
		return modulo(q)
	}
	return modulo(r)
}

// slowTwo reckons with numbers without bounds.
func slowTwo(op int, a, b uint64) uint64 {
	x, y := unsigned(a), unsigned(b)
	switch op {
	case api.Add:
		return modulo(x.Add(x, y))
	case api.Sub:
		return modulo(x.Sub(x, y))
	case api.Mul:
		return modulo(x.Mul(x, y))
	case api.Mulhu:
		return modulo(x.Div(x.Mul(x, y), power(64)))
	case api.And:
		return modulo(x.And(x, y))
	case api.Or:
		return modulo(x.Or(x, y))
	case api.Xor:
		return modulo(x.Xor(x, y))
	case api.Sll:
		return modulo(x.Mul(x, power(b%64)))
	case api.Srl:
		return modulo(x.Div(x, power(b%64)))
	case api.Sra:
		return modulo(x.Div(signed(a), power(b%64))) // Div rounds down by such a divisor
	case api.Slt:
		return boolWord(signed(a).Cmp(signed(b)) < 0)
	case api.Sltu:
		return boolWord(x.Cmp(y) < 0)
	}
	return slowDivide(op, a, b)
}

// slowTaken asks numbers without bounds.
func slowTaken(op int, a, b uint64) bool {
	s, u := signed(a).Cmp(signed(b)), unsigned(a).Cmp(unsigned(b))
	switch op {
	case api.Beq:
		return u == 0
	case api.Bne:
		return u != 0
	case api.Blt:
		return s < 0
	case api.Bge:
		return s >= 0
	case api.Bltu:
		return u < 0
	}
	return u >= 0
}

func wantTwo(t *testing.T, op int, a, b, v uint64) {
	t.Helper()
	if w, ok := alu.Two(op, a, b); w != v || !ok {
		t.Errorf("P3.1: Two(%d, %#x, %#x) = %#x, %v; want %#x", op, a, b, w, ok, v)
	}
}

func wantOne(t *testing.T, op int, a uint64, imm int64, v uint64) {
	t.Helper()
	if w, ok := alu.One(op, a, imm); w != v || !ok {
		t.Errorf("P3.1: One(%d, %#x, %d) = %#x, %v; want %#x", op, a, imm, w, ok, v)
	}
}

func wantTaken(t *testing.T, op int, a, b uint64, taken bool) {
	t.Helper()
	if is, ok := alu.Taken(op, a, b); is != taken || !ok {
		t.Errorf("P3.2: Taken(%d, %#x, %#x) = %v, %v; want %v", op, a, b, is, ok, taken)
	}
}

func TestTheChaptersExamples(t *testing.T) {
	wantTwo(t, api.Div, neg(7), 2, neg(3))
	wantTwo(t, api.Rem, neg(7), 2, neg(1))
	wantTwo(t, api.Divu, 7, 0, all)
}

func TestSumsAndProducts(t *testing.T) {
	for _, c := range []struct {
		op      int
		a, b, v uint64
	}{
		{api.Add, 2, 3, 5}, {api.Add, all, 1, 0}, {api.Add, most, 1, least}, {api.Add, least, least, 0}, {api.Add, 0, 0, 0}, {api.Add, neg(1), neg(1), neg(2)},
		{api.Sub, 5, 3, 2}, {api.Sub, 1, 2, neg(1)}, {api.Sub, 0, 1, all}, {api.Sub, least, 1, most}, {api.Sub, 0, least, least}, {api.Sub, all, all, 0},
		{api.Mul, 6, 7, 42}, {api.Mul, neg(1), neg(1), 1}, {api.Mul, 1 << 32, 1 << 32, 0}, {api.Mul, least, 2, 0}, {api.Mul, least, neg(1), least}, {api.Mul, neg(3), 5, neg(15)}, {api.Mul, all, 0, 0},
		{api.Mulhu, 6, 7, 0}, {api.Mulhu, 1 << 32, 1 << 32, 1}, {api.Mulhu, all, all, all - 1}, {api.Mulhu, all, 2, 1}, {api.Mulhu, all, 1, 0}, {api.Mulhu, least, least, 1 << 62}, {api.Mulhu, least, 2, 1}, {api.Mulhu, 0, all, 0}, {api.Mulhu, 0x0123456789abcdef, 1 << 60, 0x00123456789abcde},
		{api.And, 12, 10, 8}, {api.And, all, least, least}, {api.And, 0, all, 0}, {api.And, 0xff00, 0x0ff0, 0x0f00},
		{api.Or, 12, 10, 14}, {api.Or, 0, 0, 0}, {api.Or, most, least, all}, {api.Or, 0xff00, 0x0ff0, 0xfff0},
		{api.Xor, 12, 10, 6}, {api.Xor, all, all, 0}, {api.Xor, all, 0, all}, {api.Xor, least, all, most}, {api.Xor, 0xff00, 0x0ff0, 0xf0f0},
	} {
		wantTwo(t, c.op, c.a, c.b, c.v)
	}
}

func TestShifts(t *testing.T) {
	for _, c := range []struct {
		op      int
		a, b, v uint64
	}{
		{api.Sll, 3, 0, 3}, {api.Sll, 3, 1, 6}, {api.Sll, 3, 63, least}, {api.Sll, 3, 64, 3}, {api.Sll, 3, 65, 6}, {api.Sll, 3, 127, least}, {api.Sll, 3, 128, 3}, {api.Sll, 1, all, least}, {api.Sll, 1, 1 << 32, 1}, {api.Sll, 1, least, 1}, {api.Sll, 1, neg(64), 1},
		{api.Srl, 6, 0, 6}, {api.Srl, 6, 1, 3}, {api.Srl, all, 63, 1}, {api.Srl, least, 63, 1}, {api.Srl, least, 64, least}, {api.Srl, least, 65, 1 << 62}, {api.Srl, neg(2), 1, most}, {api.Srl, all, all, 1}, {api.Srl, all, 1 << 32, all}, {api.Srl, 7, least + 1, 3},
		{api.Sra, 6, 0, 6}, {api.Sra, 6, 1, 3}, {api.Sra, least, 63, neg(1)}, {api.Sra, least, 127, neg(1)}, {api.Sra, least, 64, least}, {api.Sra, least, 1, 3 << 62}, {api.Sra, most, 63, 0}, {api.Sra, most, 62, 1}, {api.Sra, neg(7), 1, neg(4)}, {api.Sra, neg(1), 63, neg(1)}, {api.Sra, neg(2), all, neg(1)}, {api.Sra, neg(2), 1 << 32, neg(2)},
	} {
		wantTwo(t, c.op, c.a, c.b, c.v)
	}
}

func TestComparisons(t *testing.T) {
	for _, c := range []struct {
		a, b      uint64
		slt, sltu uint64
	}{
		{0, 0, 0, 0}, {0, 1, 1, 1}, {1, 0, 0, 0}, {7, 7, 0, 0}, {all, all, 0, 0}, {least, least, 0, 0},
		{neg(1), 0, 1, 0}, {0, neg(1), 0, 1}, {neg(1), 1, 1, 0}, {1, neg(1), 0, 1}, {neg(2), neg(1), 1, 1}, {neg(1), neg(2), 0, 0},
		{least, most, 1, 0}, {most, least, 0, 1}, {least, 0, 1, 0}, {0, least, 0, 1}, {least, neg(1), 1, 1}, {most, neg(1), 0, 1}, {most - 1, most, 1, 1},
	} {
		wantTwo(t, api.Slt, c.a, c.b, c.slt)
		wantTwo(t, api.Sltu, c.a, c.b, c.sltu)
	}
}

func TestDivisions(t *testing.T) {
	for _, c := range []struct {
		a, b                 uint64
		div, rem, divu, remu uint64
	}{
		{7, 2, 3, 1, 3, 1}, {6, 2, 3, 0, 3, 0}, {1, 2, 0, 1, 0, 1}, {0, 5, 0, 0, 0, 0}, {5, 1, 5, 0, 5, 0},
		{neg(7), 2, neg(3), neg(1), most - 3, 1}, {7, neg(2), neg(3), 1, 0, 7}, {neg(7), neg(2), 3, neg(1), 0, neg(7)}, {neg(1), 2, 0, neg(1), most, 1}, {1, neg(2), 0, 1, 0, 1},
		{least, neg(1), least, 0, 0, least}, {least, 1, least, 0, least, 0}, {least, 2, 3 << 62, 0, 1 << 62, 0}, {least, least, 1, 0, 1, 0}, {most, neg(1), least + 1, 0, 0, most}, {least + 1, neg(1), most, 0, 0, least + 1},
		{most, least, 0, most, 0, most}, {least, most, neg(1), neg(1), 1, 1}, {all, 1, neg(1), 0, all, 0}, {all, all, 1, 0, 1, 0}, {1, all, neg(1), 0, 0, 1}, {all, 10, 0, neg(1), 1844674407370955161, 5},
		{7, 0, neg(1), 7, all, 7}, {0, 0, neg(1), 0, all, 0}, {1, 0, neg(1), 1, all, 1}, {neg(7), 0, neg(1), neg(7), all, neg(7)}, {least, 0, neg(1), least, all, least}, {most, 0, neg(1), most, all, most}, {all, 0, neg(1), all, all, all},
	} {
		wantTwo(t, api.Div, c.a, c.b, c.div)
		wantTwo(t, api.Rem, c.a, c.b, c.rem)
		wantTwo(t, api.Divu, c.a, c.b, c.divu)
		wantTwo(t, api.Remu, c.a, c.b, c.remu)
	}
}

func TestOperationsOfTwoOnManyNumbers(t *testing.T) {
	for op := api.Add; op <= api.Remu; op++ {
		for _, p := range pairs() {
			if v, ok := alu.Two(op, p[0], p[1]); v != slowTwo(op, p[0], p[1]) || !ok {
				t.Fatalf("P3.1: Two(%d, %#x, %#x) = %#x, %v; want %#x", op, p[0], p[1], v, ok, slowTwo(op, p[0], p[1]))
			}
		}
	}
}

func TestOperationsOfOneAndANumber(t *testing.T) {
	for _, c := range []struct {
		op  int
		a   uint64
		imm int64
		v   uint64
	}{
		{api.Addi, 5, 3, 8}, {api.Addi, 5, -3, 2}, {api.Addi, 0, -1, all}, {api.Addi, all, 1, 0}, {api.Addi, most, 2047, least + 2046}, {api.Addi, 0, -2048, neg(2048)},
		{api.Slti, 4, 5, 1}, {api.Slti, 5, 5, 0}, {api.Slti, neg(1), 0, 1}, {api.Slti, 0, -1, 0}, {api.Slti, least, -2048, 1}, {api.Slti, most, -1, 0},
		{api.Sltiu, 4, 5, 1}, {api.Sltiu, 5, 5, 0}, {api.Sltiu, 5, -1, 1}, {api.Sltiu, all, -1, 0}, {api.Sltiu, neg(1), 0, 0}, {api.Sltiu, 0, 1, 1}, {api.Sltiu, neg(2049), -2048, 1},
		{api.Xori, 12, 10, 6}, {api.Xori, 0, -1, all}, {api.Xori, all, -1, 0}, {api.Xori, least, -1, most},
		{api.Ori, 12, 10, 14}, {api.Ori, 0, -1, all}, {api.Ori, 1, -2048, neg(2047)},
		{api.Andi, 12, 10, 8}, {api.Andi, all, -16, neg(16)}, {api.Andi, 0x1234, 0xff, 0x34}, {api.Andi, least, -1, least},
		{api.Slli, 3, 0, 3}, {api.Slli, 3, 1, 6}, {api.Slli, 3, 63, least},
		{api.Srli, all, 0, all}, {api.Srli, least, 63, 1}, {api.Srli, neg(2), 1, most},
		{api.Srai, least, 0, least}, {api.Srai, least, 63, all}, {api.Srai, neg(7), 1, neg(4)}, {api.Srai, most, 63, 0},
	} {
		wantOne(t, c.op, c.a, c.imm, c.v)
	}
}

// TestNumbersThatNoInstructionHas: the chapter sets no bounds to the number, and shifts are modulo 64.
func TestNumbersThatNoInstructionHas(t *testing.T) {
	for _, c := range []struct {
		op  int
		a   uint64
		imm int64
		v   uint64
	}{
		{api.Addi, 1, math.MaxInt64, least}, {api.Addi, 0, math.MinInt64, least}, {api.Addi, 0, 2048, 2048},
		{api.Slti, least, math.MinInt64, 0}, {api.Slti, least, math.MaxInt64, 1}, {api.Sltiu, most, math.MinInt64, 1}, {api.Sltiu, least, math.MaxInt64, 0},
		{api.Slli, 3, 64, 3}, {api.Slli, 3, 65, 6}, {api.Slli, 3, -1, least}, {api.Srli, least, 127, 1}, {api.Srli, least, -64, least}, {api.Srai, least, 127, all}, {api.Srai, least, math.MinInt64, least}, {api.Srai, least, math.MaxInt64, all},
	} {
		wantOne(t, c.op, c.a, c.imm, c.v)
	}
}

func TestOperationsOfOneOnManyNumbers(t *testing.T) {
	asTwo := map[int]int{
		api.Addi: api.Add, api.Slti: api.Slt, api.Sltiu: api.Sltu, api.Xori: api.Xor, api.Ori: api.Or,
		api.Andi: api.And, api.Slli: api.Sll, api.Srli: api.Srl, api.Srai: api.Sra,
	}
	for op := api.Addi; op <= api.Srai; op++ {
		for _, p := range pairs() {
			want := slowTwo(asTwo[op], p[0], p[1])
			if v, ok := alu.One(op, p[0], int64(p[1])); v != want || !ok {
				t.Fatalf("P3.1: One(%d, %#x, %d) = %#x, %v; want %#x", op, p[0], int64(p[1]), v, ok, want)
			}
		}
	}
}

func TestNoOperationOfTwo(t *testing.T) {
	for _, op := range others(api.Add, api.Remu) {
		for _, p := range [][2]uint64{{0, 0}, {1, 2}, {7, 7}, {all, 1}, {least, all}, {5, 0}} {
			if v, ok := alu.Two(op, p[0], p[1]); v != 0 || ok {
				t.Errorf("P3.1: Two(%d, %#x, %#x) = %#x, %v; want 0, false", op, p[0], p[1], v, ok)
			}
		}
	}
}

func TestNoOperationOfOne(t *testing.T) {
	for _, op := range others(api.Addi, api.Srai) {
		for _, p := range [][2]uint64{{0, 0}, {1, 2}, {7, 7}, {all, 1}, {least, all}, {5, 0}} {
			if v, ok := alu.One(op, p[0], int64(p[1])); v != 0 || ok {
				t.Errorf("P3.1: One(%d, %#x, %d) = %#x, %v; want 0, false", op, p[0], int64(p[1]), v, ok)
			}
		}
	}
}

func TestTaken(t *testing.T) {
	for _, c := range []struct {
		a, b                           uint64
		beq, bne, blt, bge, bltu, bgeu bool
	}{
		{0, 0, true, false, false, true, false, true},
		{7, 7, true, false, false, true, false, true},
		{all, all, true, false, false, true, false, true},
		{least, least, true, false, false, true, false, true},
		{most, most, true, false, false, true, false, true},
		{1, 2, false, true, true, false, true, false},
		{2, 1, false, true, false, true, false, true},
		{neg(2), neg(1), false, true, true, false, true, false},
		{neg(1), neg(2), false, true, false, true, false, true},
		{neg(1), 1, false, true, true, false, false, true},
		{1, neg(1), false, true, false, true, true, false},
		{neg(1), 0, false, true, true, false, false, true},
		{0, neg(1), false, true, false, true, true, false},
		{least, most, false, true, true, false, false, true},
		{most, least, false, true, false, true, true, false},
		{least, 0, false, true, true, false, false, true},
		{0, least, false, true, false, true, true, false},
		{least, neg(1), false, true, true, false, true, false},
		{1 << 32, 0, false, true, false, true, false, true},
	} {
		wantTaken(t, api.Beq, c.a, c.b, c.beq)
		wantTaken(t, api.Bne, c.a, c.b, c.bne)
		wantTaken(t, api.Blt, c.a, c.b, c.blt)
		wantTaken(t, api.Bge, c.a, c.b, c.bge)
		wantTaken(t, api.Bltu, c.a, c.b, c.bltu)
		wantTaken(t, api.Bgeu, c.a, c.b, c.bgeu)
	}
}

func TestTakenOnManyNumbers(t *testing.T) {
	for op := api.Beq; op <= api.Bgeu; op++ {
		for _, p := range pairs() {
			if is, ok := alu.Taken(op, p[0], p[1]); is != slowTaken(op, p[0], p[1]) || !ok {
				t.Fatalf("P3.2: Taken(%d, %#x, %#x) = %v, %v; want %v", op, p[0], p[1], is, ok, slowTaken(op, p[0], p[1]))
			}
		}
	}
}

func TestNoBranch(t *testing.T) {
	for _, op := range others(api.Beq, api.Bgeu) {
		for _, p := range [][2]uint64{{0, 0}, {1, 2}, {2, 1}, {all, 1}, {least, most}} {
			if is, ok := alu.Taken(op, p[0], p[1]); is || ok {
				t.Errorf("P3.2: Taken(%d, %#x, %#x) = %v, %v; want false, false", op, p[0], p[1], is, ok)
			}
		}
	}
}

func TestVaries(t *testing.T) {
	for op := api.Div; op <= api.Remu; op++ {
		if !alu.Varies(op) {
			t.Errorf("P3.2: Varies(%d) is false", op)
		}
	}
	for _, op := range others(api.Div, api.Remu) {
		if alu.Varies(op) {
			t.Errorf("P3.2: Varies(%d) is true", op)
		}
	}
}

// TestANumberIsItsQuotientTimesTheDivisorAndTheRest, and the rest of a division that isn't by 0 is less than the divisor.
func TestANumberIsItsQuotientTimesTheDivisorAndTheRest(t *testing.T) {
	for _, ops := range [][2]int{{api.Div, api.Rem}, {api.Divu, api.Remu}} {
		for _, p := range pairs() {
			for _, b := range []uint64{p[1], 0} {
				q, _ := alu.Two(ops[0], p[0], b)
				r, _ := alu.Two(ops[1], p[0], b)
				product, _ := alu.Two(api.Mul, q, b)
				if a, _ := alu.Two(api.Add, product, r); a != p[0] {
					t.Fatalf("P3.3: of %#x by %#x: %#x times that, and %#x, is %#x", p[0], b, q, r, a)
				}
				if b == 0 && (q != all || r != p[0]) {
					t.Fatalf("P3.3: of %#x by 0: %#x, %#x", p[0], q, r)
				}
			}
		}
	}
}

func TestRestsAreLessThanTheDivisor(t *testing.T) {
	for _, p := range pairs() {
		if p[1] == 0 {
			continue
		}
		if r, _ := alu.Two(api.Remu, p[0], p[1]); r >= p[1] {
			t.Fatalf("P3.3: the rest of %#x by %#x, without signs, is %#x", p[0], p[1], r)
		}
		v, _ := alu.Two(api.Rem, p[0], p[1])
		r := signed(v)
		if r.CmpAbs(signed(p[1])) >= 0 || r.Sign()*signed(p[0]).Sign() < 0 {
			t.Fatalf("P3.3: the rest of %#x by %#x, signed, is %#x", p[0], p[1], v)
		}
	}
}
