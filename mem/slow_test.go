package mem_test

import (
	"math"
	"math/big"
	"testing"

	"caponier/api"
	"caponier/mem"
)

const (
	all = uint64(math.MaxUint64)
	end = all - 7 // the greatest end that a region may have
)

// noise are words without a pattern, the same in each run.
func noise() func() uint64 {
	x := uint64(88172645463325252)
	return func() uint64 {
		x ^= x << 13
		x ^= x >> 7
		x ^= x << 17
		return x
	}
}

// below are numbers from 0 to one less than n.
func below(next func() uint64, n int) int {
	return int(next() >> 20 % uint64(n))
}

func big64(x uint64) *big.Int {
	return new(big.Int).SetUint64(x)
}

// slow is the chapter's memory without any wrap: it asks byte by byte, with addresses that have no bounds.
type slow struct {
	table []api.Region
	held  map[uint64]byte
}

// region is in which region a byte lies; -1: in none.
func (s slow) region(at *big.Int) int {
	for i, r := range s.table {
		if at.Cmp(big64(r.Lo)) >= 0 && at.Cmp(big64(r.Hi)) < 0 {
			return i
		}
	}
	return -1
}

func (s slow) find(at uint64, n int) (int, bool) {
	if n < 1 {
		return 0, false
	}
	last := new(big.Int).Add(big64(at), big.NewInt(int64(n)-1))
	i := s.region(big64(at))
	if i < 0 || s.region(last) != i { // regions have no holes: what ends in one lies in it
		return 0, false
	}
	return i, true
}

func (s slow) allowed(at uint64, n int, own bool, what int) bool {
	i, ok := s.find(at, n)
	if !ok || n != 1 && n != 4 && n != 8 || at%uint64(n) != 0 {
		return false
	}
	have := s.table[i].Out
	if own {
		have = s.table[i].Own
	}
	for bit := range 63 {
		if what>>bit&1 == 1 && have>>bit&1 == 0 {
			return false
		}
	}
	return what >= 0
}

func (s slow) load(at uint64, n int, own bool, what int) (uint64, api.Code) {
	if !s.allowed(at, n, own, what) {
		return 0, api.Refused
	}
	v := uint64(0)
	for i := n - 1; i >= 0; i-- {
		v = v*256 + uint64(s.held[at+uint64(i)])
	}
	return v, api.OK
}

func (s slow) store(at uint64, n int, own bool, v uint64) api.Code {
	if !s.allowed(at, n, own, api.Write) {
		return api.Refused
	}
	for i := range n {
		s.held[at+uint64(i)] = byte(v)
		v /= 256
	}
	return api.OK
}

func (s slow) poke(at uint64, b []byte) api.Code {
	if _, ok := s.find(at, len(b)); !ok && len(b) > 0 {
		return api.Refused
	}
	for i, x := range b {
		s.held[at+uint64(i)] = x
	}
	return api.OK
}

func (s slow) peek(at uint64, n int) ([]byte, api.Code) {
	if n == 0 {
		return nil, api.OK
	}
	if _, ok := s.find(at, n); !ok {
		return nil, api.Refused
	}
	var b []byte
	for i := range n {
		b = append(b, s.held[at+uint64(i)])
	}
	return b, api.OK
}

// someTable has regions that touch, gaps, regions at both ends of the addresses, one of MaxMem bytes, and the rights of a module among contexts.
func someTable() []api.Region {
	return []api.Region{
		{Lo: 0, Hi: 16, Own: 7, Out: 0},
		{Lo: 16, Hi: 24, Own: api.Read, Out: api.Write},
		{Lo: 24, Hi: 64, Own: api.Write, Out: api.Read},
		{Lo: 0x1000, Hi: 0x1040, Own: api.Fetch, Out: 0},
		{Lo: 0x1040, Hi: 0x1080, Own: api.Read | api.Write, Out: api.Fetch},
		{Lo: 0x1080, Hi: 0x1080 + api.MaxMem, Own: api.Read | api.Write, Out: api.Read | api.Write},
		{Lo: 1 << 63, Hi: 1<<63 + 8, Own: 0, Out: 7},
		{Lo: end - 16, Hi: end - 8, Own: api.Read | api.Fetch, Out: api.Write | api.Fetch},
		{Lo: end - 8, Hi: end, Own: 7, Out: 7},
	}
}

// someAddresses are around all ends of a table's regions, and at both ends of the addresses.
func someAddresses(t []api.Region) []uint64 {
	var l []uint64
	for d := range uint64(20) {
		l = append(l, d, all-d, 1<<32+d, 1<<63-d)
	}
	for _, r := range t {
		for d := range uint64(18) {
			l = append(l, r.Lo+d, r.Lo-d, r.Hi+d, r.Hi-d)
		}
	}
	return l
}

// someCounts are around those that an access may have, and what would wrap.
func someCounts() []int {
	return []int{
		0, 1, 2, 3, 4, 5, 6, 7, 8, 9, 12, 15, 16, 17, 24, 40, 41, 63, 64, 65, api.MaxMem - 1, api.MaxMem, api.MaxMem + 1, api.MaxMem + 8,
		-1, -4, -8, 1 << 32, 1<<32 + 1, 1<<32 + 8, math.MaxInt, math.MaxInt - 7, math.MinInt, math.MinInt + 1, math.MinInt + 8,
	}
}

func makeMem(t *testing.T, table ...api.Region) *mem.Mem {
	t.Helper()
	m, e := mem.New(table)
	if m == nil || e != api.OK {
		t.Fatalf("P4.1: New(%v) = %v, %d; want a memory", table, m, e)
	}
	return m
}

// wantHeld holds all of a memory's bytes against the slow one's.
func wantHeld(t *testing.T, promise string, m *mem.Mem, s slow) {
	t.Helper()
	for _, r := range s.table {
		b, e := m.Peek(r.Lo, int(r.Hi-r.Lo))
		if e != api.OK || uint64(len(b)) != r.Hi-r.Lo {
			t.Fatalf("%s: of %#x to %#x there are %d bytes, %d", promise, r.Lo, r.Hi, len(b), e)
		}
		for i, x := range b {
			if x != s.held[r.Lo+uint64(i)] {
				t.Fatalf("%s: at %#x there is %d; want %d", promise, r.Lo+uint64(i), x, s.held[r.Lo+uint64(i)])
			}
		}
	}
}

// filled is a memory in which each byte differs from its neighbours, and the slow one that is like it.
func filled(t *testing.T, table ...api.Region) (*mem.Mem, slow) {
	t.Helper()
	m, s := makeMem(t, table...), slow{table, map[uint64]byte{}}
	for i, r := range table {
		b := make([]byte, r.Hi-r.Lo)
		for j := range b {
			b[j] = byte(7*j + 31*i + 1)
		}
		if e := m.Poke(r.Lo, b); e != s.poke(r.Lo, b) || e != api.OK {
			t.Fatalf("P4.3: Poke of region %d: %d", i, e)
		}
	}
	return m, s
}
