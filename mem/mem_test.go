package mem_test

import (
	"bytes"
	"math"
	"slices"
	"testing"

	"caponier/api"
	"caponier/mem"
)

// rising are n regions, one behind the other.
func rising(n int) []api.Region {
	var l []api.Region
	for i := range uint64(n) {
		l = append(l, api.Region{Lo: 0x100 + 16*i, Hi: 0x110 + 16*i, Own: 7, Out: 7})
	}
	return l
}

func TestTablesThatMayBe(t *testing.T) {
	tables := [][]api.Region{
		someTable(),
		{{Lo: 0, Hi: 8}},
		{{Lo: 8, Hi: 16}},
		{{Lo: 0, Hi: api.MaxMem}},
		{{Lo: end - 8, Hi: end, Own: 7, Out: 7}},
		{{Lo: end - api.MaxMem, Hi: end}},
		{{Lo: 0, Hi: 16}, {Lo: 16, Hi: 32}},
		{{Lo: 0, Hi: 16}, {Lo: 24, Hi: 32}},
		{{Lo: 0, Hi: api.MaxMem}, {Lo: api.MaxMem, Hi: 2 * api.MaxMem}},
		{{Lo: 0, Hi: 8}, {Lo: end - 8, Hi: end}},
	}
	for n := 1; n <= api.MaxRegions; n++ {
		tables = append(tables, rising(n))
	}
	for own := range 8 {
		for out := range 8 {
			tables = append(tables, []api.Region{{Lo: 64, Hi: 72, Own: own, Out: out}})
		}
	}
	for _, x := range tables {
		if m, e := mem.New(x); !mem.May(x) || m == nil || e != api.OK {
			t.Errorf("P4.1: New(%v) = %v, %d; May: %v", x, m, e, mem.May(x))
		}
	}
}

// wrongRegions may stand in no table.
func wrongRegions() []api.Region {
	l := []api.Region{
		{Lo: 0x1000, Hi: 0x1000}, {Lo: 0x1008, Hi: 0x1000}, {Lo: 0x1008, Hi: 0}, {Lo: all - 7, Hi: 0}, // empty, or the wrong way round
		{Lo: 0x1000, Hi: 0x1000 + api.MaxMem + 8}, {Lo: 0x1000, Hi: 0x1000 + 2*api.MaxMem}, {Lo: 0x1000, Hi: end}, {Lo: 0x1000, Hi: 1 << 63}, {Lo: 0x1000, Hi: 0x1008 + 1<<32}, // too great
		{Lo: 0x1000, Hi: all}, {Lo: 1<<64 - 8, Hi: all}, {Lo: 0x1007, Hi: 0x1009}, {Lo: 0x1001, Hi: 0x1009}, {Lo: 0x1004, Hi: 0x100c},
	}
	for d := uint64(1); d < 8; d++ {
		l = append(l, api.Region{Lo: 0x1000 + d, Hi: 0x1010}, api.Region{Lo: 0x1000, Hi: 0x1010 + d}, api.Region{Lo: 0x1000 + d, Hi: 0x1010 + d})
	}
	for _, x := range []int{-1, -8, 8, 9, 15, 16, 256, 1 << 32, 1<<32 + 1, math.MaxInt, math.MinInt} {
		l = append(l, api.Region{Lo: 0x1000, Hi: 0x1010, Own: x, Out: 7}, api.Region{Lo: 0x1000, Hi: 0x1010, Own: 7, Out: x}, api.Region{Lo: 0x1000, Hi: 0x1010, Own: x, Out: x})
	}
	return l
}

func wantNoTable(t *testing.T, x []api.Region) {
	t.Helper()
	if m, e := mem.New(x); mem.May(x) || m != nil || e != api.Overlap {
		t.Errorf("P4.1: New(%v) = %v, %d; May: %v; want nothing, Overlap", x, m, e, mem.May(x))
	}
}

func TestTablesOfWrongRegions(t *testing.T) {
	wantNoTable(t, nil)
	wantNoTable(t, []api.Region{})
	wantNoTable(t, rising(17))
	wantNoTable(t, rising(1000))
	wantNoTable(t, make([]api.Region, 16))
	for _, r := range wrongRegions() {
		wantNoTable(t, []api.Region{r})
		wantNoTable(t, []api.Region{{Lo: 0, Hi: 8}, r})
		wantNoTable(t, append(rising(15), r))
		wantNoTable(t, []api.Region{r, {Lo: end - 8, Hi: end}})
	}
}

func TestTablesOfRegionsThatDoNotRise(t *testing.T) {
	for _, x := range [][]api.Region{
		{{Lo: 0, Hi: 16}, {Lo: 8, Hi: 24}},
		{{Lo: 0, Hi: 16}, {Lo: 0, Hi: 16}},
		{{Lo: 0, Hi: 16}, {Lo: 0, Hi: 24}},
		{{Lo: 0, Hi: 32}, {Lo: 8, Hi: 16}},
		{{Lo: 8, Hi: 16}, {Lo: 0, Hi: 32}},
		{{Lo: 16, Hi: 32}, {Lo: 0, Hi: 16}},
		{{Lo: 16, Hi: 32}, {Lo: 0, Hi: 8}},
		{{Lo: 16, Hi: 32}, {Lo: 8, Hi: 24}},
		{{Lo: 0, Hi: 16}, {Lo: 32, Hi: 48}, {Lo: 16, Hi: 32}},
		{{Lo: 0, Hi: 16}, {Lo: 32, Hi: 48}, {Lo: 40, Hi: 56}},
		{{Lo: 0, Hi: 16}, {Lo: 32, Hi: 48}, {Lo: 8, Hi: 24}},
		{{Lo: end - 8, Hi: end}, {Lo: 0, Hi: 8}},
		{{Lo: end - 8, Hi: end}, {Lo: end - 8, Hi: end}},
	} {
		wantNoTable(t, x)
	}
	swapped := rising(16)
	swapped[14], swapped[15] = swapped[15], swapped[14]
	wantNoTable(t, swapped)
}

func TestTheTableIsNeitherChangedNorKept(t *testing.T) {
	room := someTable()
	room = append(room, api.Region{Lo: 1, Hi: 2, Own: 3, Out: 4}) // in the spare room
	was := slices.Clone(room)
	given := room[:len(room)-1]
	m := makeMem(t, given...)
	mem.May(given)
	if !slices.Equal(room, was) {
		t.Errorf("P4.1: New changed its table to %v", room)
	}
	_ = m.Store(0, 8, true, 5)
	clear(room)
	if i, ok := m.Find(0x1000, 8); i != 3 || !ok {
		t.Errorf("P4.1: written over behind the call, and now %d, %v", i, ok)
	}
	if v, e := m.Load(0, 8, true); v != 5 || e != api.OK {
		t.Errorf("P4.2: written over behind the call, and now %d, %d", v, e)
	}
}

func TestFind(t *testing.T) {
	m := makeMem(t, api.Region{Lo: 0, Hi: 16}, api.Region{Lo: 16, Hi: 32}, api.Region{Lo: 64, Hi: 64 + api.MaxMem}, api.Region{Lo: end - 8, Hi: end})
	for _, c := range []struct {
		at uint64
		n  int
		i  int
		ok bool
	}{
		{12, 8, 0, false}, // the chapter's example
		{0, 1, 0, true}, {0, 16, 0, true}, {15, 1, 0, true}, {3, 13, 0, true}, {3, 5, 0, true}, {0, 17, 0, false}, {15, 2, 0, false}, {0, 32, 0, false},
		{16, 1, 1, true}, {16, 16, 1, true}, {31, 1, 1, true}, {16, 17, 0, false}, {31, 2, 0, false}, {32, 1, 0, false}, {63, 1, 0, false}, {63, 2, 0, false}, {32, 32, 0, false},
		{64, api.MaxMem, 2, true}, {64, api.MaxMem + 1, 0, false}, {65, api.MaxMem, 0, false}, {63 + api.MaxMem, 1, 2, true}, {64 + api.MaxMem, 1, 0, false},
		{end - 8, 8, 3, true}, {end - 1, 1, 3, true}, {end - 8, 9, 0, false}, {end - 1, 2, 0, false}, {end, 1, 0, false}, {all, 1, 0, false}, {all, 2, 0, false}, {all, 9, 0, false}, {end - 9, 1, 0, false},
		{0, 0, 0, false}, {16, 0, 0, false}, {17, 0, 0, false}, {64, 0, 0, false}, {end, 0, 0, false}, {0, -1, 0, false}, {20, -4, 0, false}, {32, -8, 0, false},
		{0, math.MaxInt, 0, false}, {end - 8, math.MaxInt, 0, false}, {0, math.MinInt, 0, false}, {16, math.MinInt, 0, false}, {1 << 63, math.MaxInt, 0, false}, {16, 1<<32 + 1, 0, false}, {all, math.MaxInt, 0, false},
	} {
		if i, ok := m.Find(c.at, c.n); i != c.i || ok != c.ok {
			t.Errorf("P4.1: Find(%#x, %d) = %d, %v; want %d, %v", c.at, c.n, i, ok, c.i, c.ok)
		}
	}
}

func TestFindAmongSixteenRegions(t *testing.T) {
	m := makeMem(t, rising(16)...)
	for i := range uint64(16) {
		for _, at := range []uint64{0x100 + 16*i, 0x10f + 16*i} {
			if j, ok := m.Find(at, 1); j != int(i) || !ok {
				t.Errorf("P4.1: Find(%#x, 1) = %d, %v; want %d", at, j, ok, i)
			}
		}
	}
}

func TestFindOnManyNumbers(t *testing.T) {
	m, s := makeMem(t, someTable()...), slow{table: someTable()}
	for _, at := range someAddresses(someTable()) {
		for _, n := range someCounts() {
			i, ok := m.Find(at, n)
			if j, is := s.find(at, n); i != j || ok != is {
				t.Fatalf("P4.1: Find(%#x, %d) = %d, %v; want %d, %v", at, n, i, ok, j, is)
			}
		}
	}
}

func TestAllowedOfEachRight(t *testing.T) {
	for mine := range 8 {
		for other := range 8 {
			for what := range 8 {
				for _, n := range []int{1, 4, 8} {
					want := what&^mine == 0
					m := makeMem(t, api.Region{Lo: 8, Hi: 16, Own: mine, Out: other})
					if m.Allowed(8, n, true, what) != want {
						t.Errorf("P4.1: the module may %d, the context %d: Allowed(8, %d, true, %d) is %v", mine, other, n, what, !want)
					}
					m = makeMem(t, api.Region{Lo: 8, Hi: 16, Own: other, Out: mine})
					if m.Allowed(8, n, false, what) != want {
						t.Errorf("P4.1: the context may %d, the module %d: Allowed(8, %d, false, %d) is %v", mine, other, n, what, !want)
					}
				}
			}
		}
	}
}

func TestAllowedOfNoRight(t *testing.T) {
	m := makeMem(t, api.Region{Lo: 8, Hi: 16, Own: 7, Out: 7})
	for _, what := range []int{-1, -8, 8, 9, 15, 16, 256, 1 << 32, 1<<32 + 1, math.MaxInt, math.MinInt, math.MinInt + 1} {
		if m.Allowed(8, 8, true, what) || m.Allowed(8, 8, false, what) {
			t.Errorf("P4.1: Allowed(8, 8, .., %d) is true", what)
		}
	}
}

func TestAllowedWhereItLies(t *testing.T) {
	m := makeMem(t, api.Region{Lo: 0x1000, Hi: 0x1010, Own: 7, Out: 7}, api.Region{Lo: 0x1010, Hi: 0x1018, Own: 7, Out: 7}, api.Region{Lo: end - 8, Hi: end, Own: 7, Out: 7})
	for _, c := range []struct {
		at   uint64
		n    int
		want bool
	}{
		{0x1000, 8, true}, {0x1008, 8, true}, {0x1010, 8, true}, {0x1018, 8, false}, {0xff8, 8, false}, {0x1004, 8, false}, {0x100c, 8, false}, {0x1001, 8, false},
		{0x1000, 4, true}, {0x100c, 4, true}, {0x1014, 4, true}, {0x1018, 4, false}, {0xffc, 4, false}, {0x1002, 4, false}, {0x1001, 4, false}, {0x100e, 4, false},
		{0x1000, 1, true}, {0x100f, 1, true}, {0x1017, 1, true}, {0x1018, 1, false}, {0xfff, 1, false}, {0x1003, 1, true},
		{end - 8, 8, true}, {end - 4, 4, true}, {end - 1, 1, true}, {end - 4, 8, false}, {end, 8, false}, {end, 4, false}, {end, 1, false}, {all, 1, false}, {all, 8, false}, {0, 8, false},
		{0x1000, 2, false}, {0x1000, 3, false}, {0x1000, 16, false}, {0x1000, 5, false}, {0x1000, 7, false}, {0x1000, 0, false}, {0x1000, -1, false}, {0x1000, -4, false}, {0x1000, -8, false}, {0x1000, math.MinInt, false}, {0x1000, math.MaxInt, false}, {0x1000, 1<<32 + 8, false},
	} {
		for _, own := range []bool{true, false} {
			for _, what := range []int{0, api.Read, api.Write, api.Fetch, 7} {
				if m.Allowed(c.at, c.n, own, what) != c.want {
					t.Errorf("P4.1: Allowed(%#x, %d, %v, %d) is %v", c.at, c.n, own, what, !c.want)
				}
			}
		}
	}
}

func TestAllowedOnManyNumbers(t *testing.T) {
	m, s := makeMem(t, someTable()...), slow{table: someTable()}
	for _, at := range someAddresses(someTable()) {
		for _, n := range someCounts() {
			for _, what := range []int{0, 1, 2, 3, 4, 5, 6, 7, 8, -1} {
				for _, own := range []bool{true, false} {
					if m.Allowed(at, n, own, what) != s.allowed(at, n, own, what) {
						t.Fatalf("P4.1: Allowed(%#x, %d, %v, %d) is %v", at, n, own, what, m.Allowed(at, n, own, what))
					}
				}
			}
		}
	}
}

func TestAllBytesAreAtFirst0(t *testing.T) {
	wantHeld(t, "P4.1", makeMem(t, someTable()...), slow{table: someTable()})
}

func TestLoad(t *testing.T) {
	m := makeMem(t, api.Region{Lo: 0x1000, Hi: 0x1010, Own: api.Read, Out: api.Read}, api.Region{Lo: end - 8, Hi: end, Own: api.Read, Out: api.Read})
	b := []byte{0x01, 0x82, 0x03, 0x84, 0x05, 0x06, 0x07, 0x88, 0xff, 0xff, 0xff, 0xff, 0xff, 0xff, 0xff, 0xfe}
	if m.Poke(0x1000, b) != api.OK || m.Poke(end-8, b[:8]) != api.OK {
		t.Fatal("P4.3: Poke")
	}
	for _, c := range []struct {
		at uint64
		n  int
		v  uint64
	}{
		{0x1000, 1, 0x01}, {0x1001, 1, 0x82}, {0x1007, 1, 0x88}, {0x100f, 1, 0xfe},
		{0x1000, 4, 0x84038201}, {0x1004, 4, 0x88070605}, {0x1008, 4, 0xffffffff}, {0x100c, 4, 0xfeffffff},
		{0x1000, 8, 0x8807060584038201}, {0x1008, 8, 0xfeffffffffffffff},
		{end - 8, 8, 0x8807060584038201}, {end - 4, 4, 0x88070605}, {end - 1, 1, 0x88},
	} {
		for _, own := range []bool{true, false} {
			if v, e := m.Load(c.at, c.n, own); v != c.v || e != api.OK {
				t.Errorf("P4.2: Load(%#x, %d, %v) = %#x, %d; want %#x", c.at, c.n, own, v, e, c.v)
			}
		}
	}
}

func TestStore(t *testing.T) {
	for _, c := range []struct {
		at   uint64
		n    int
		want []byte
	}{
		{0x1000, 1, []byte{0x21, 9, 9, 9, 9, 9, 9, 9, 9, 9, 9, 9, 9, 9, 9, 9}},
		{0x100f, 1, []byte{9, 9, 9, 9, 9, 9, 9, 9, 9, 9, 9, 9, 9, 9, 9, 0x21}},
		{0x1003, 1, []byte{9, 9, 9, 0x21, 9, 9, 9, 9, 9, 9, 9, 9, 9, 9, 9, 9}},
		{0x1000, 4, []byte{0x21, 0x43, 0x65, 0x87, 9, 9, 9, 9, 9, 9, 9, 9, 9, 9, 9, 9}},
		{0x100c, 4, []byte{9, 9, 9, 9, 9, 9, 9, 9, 9, 9, 9, 9, 0x21, 0x43, 0x65, 0x87}},
		{0x1000, 8, []byte{0x21, 0x43, 0x65, 0x87, 0xa9, 0xcb, 0xed, 0x0f, 9, 9, 9, 9, 9, 9, 9, 9}},
		{0x1008, 8, []byte{9, 9, 9, 9, 9, 9, 9, 9, 0x21, 0x43, 0x65, 0x87, 0xa9, 0xcb, 0xed, 0x0f}},
	} {
		for _, own := range []bool{true, false} {
			m := makeMem(t, api.Region{Lo: 0x1000, Hi: 0x1010, Own: api.Write, Out: api.Write})
			_ = m.Poke(0x1000, bytes.Repeat([]byte{9}, 16))
			e := m.Store(c.at, c.n, own, 0x0fedcba987654321)
			if b, _ := m.Peek(0x1000, 16); e != api.OK || !bytes.Equal(b, c.want) {
				t.Errorf("P4.2: Store(%#x, %d, %v, ..): %d, and there is %v; want %v", c.at, c.n, own, e, b, c.want)
			}
		}
	}
}

func TestFetch(t *testing.T) {
	m := makeMem(t, api.Region{Lo: 0x1000, Hi: 0x1008, Own: api.Fetch, Out: api.Fetch}, api.Region{Lo: 0x1008, Hi: 0x1010, Own: 7, Out: 7})
	_ = m.Poke(0x1000, []byte{1, 2, 3, 0x84, 5, 6, 7, 0x88})
	_ = m.Poke(0x1008, []byte{9, 0xff, 0xff, 0xff})
	for _, own := range []bool{true, false} {
		for at, want := range map[uint64]uint32{0x1000: 0x84030201, 0x1004: 0x88070605, 0x1008: 0xffffff09, 0x100c: 0} {
			if w, e := m.Fetch(at, own); w != want || e != api.OK {
				t.Errorf("P4.2: Fetch(%#x, %v) = %#x, %d; want %#x", at, own, w, e, want)
			}
		}
		for _, at := range []uint64{0, 0xffc, 0x1001, 0x1002, 0x1003, 0x1006, 0x100e, 0x1010, 1 << 63, end, all, all - 3} {
			if w, e := m.Fetch(at, own); w != 0 || e != api.Refused {
				t.Errorf("P4.2: Fetch(%#x, %v) = %#x, %d; want 0, Refused", at, own, w, e)
			}
		}
	}
}

func refusedIf(refused bool) api.Code {
	if refused {
		return api.Refused
	}
	return api.OK
}

// TestEachRightAlone: reading, writing and fetching need no right but their own, and none of the other's.
func TestEachRightAlone(t *testing.T) {
	for mine := range 8 {
		for _, own := range []bool{true, false} {
			r := api.Region{Lo: 8, Hi: 16, Own: mine, Out: 7 &^ mine}
			if !own {
				r.Own, r.Out = r.Out, r.Own
			}
			for _, n := range []int{1, 4, 8} {
				m := makeMem(t, r)
				_ = m.Poke(8, bytes.Repeat([]byte{0xff}, 8))
				if v, e := m.Load(8, n, own); e != refusedIf(mine&api.Read == 0) || (v != 0) != (e == api.OK) {
					t.Errorf("P4.2: who may %d: Load(8, %d, %v) = %#x, %d", mine, n, own, v, e)
				}
				if w, e := m.Fetch(8, own); e != refusedIf(mine&api.Fetch == 0) || (w != 0) != (e == api.OK) {
					t.Errorf("P4.2: who may %d: Fetch(8, %v) = %#x, %d", mine, own, w, e)
				}
				e := m.Store(8, n, own, 0)
				b, _ := m.Peek(8, 1)
				if e != refusedIf(mine&api.Write == 0) || (b[0] == 0) != (e == api.OK) {
					t.Errorf("P4.2: who may %d: Store(8, %d, %v, 0): %d, and there is %v", mine, n, own, e, b)
				}
			}
		}
	}
}

func TestLoadsAndFetchesOnManyNumbers(t *testing.T) {
	m, s := filled(t, someTable()...)
	for _, at := range someAddresses(someTable()) {
		for _, own := range []bool{true, false} {
			for _, n := range someCounts() {
				v, e := m.Load(at, n, own)
				if w, f := s.load(at, n, own, api.Read); v != w || e != f {
					t.Fatalf("P4.2: Load(%#x, %d, %v) = %#x, %d; want %#x, %d", at, n, own, v, e, w, f)
				}
			}
			v, e := m.Fetch(at, own)
			if w, f := s.load(at, 4, own, api.Fetch); uint64(v) != w || e != f {
				t.Fatalf("P4.2: Fetch(%#x, %v) = %#x, %d; want %#x, %d", at, own, v, e, w, f)
			}
		}
	}
	wantHeld(t, "P4.4", m, s)
}

func TestPeekAndPoke(t *testing.T) {
	m := makeMem(t, api.Region{Lo: 0, Hi: 16}, api.Region{Lo: 16, Hi: 32, Own: api.Fetch, Out: api.Fetch}, api.Region{Lo: end - 8, Hi: end})
	for _, c := range []struct {
		at uint64
		b  []byte
	}{
		{0, []byte{1}}, {15, []byte{2}}, {3, []byte{3, 4, 5, 6, 7}}, {0, []byte("sixteen bytes in")}, {1, []byte("fifteen of them")}, // nobody may do anything there
		{16, []byte("sixteen bytes in")}, {31, []byte{8}}, {17, []byte{9, 10}}, {24, []byte{0, 0, 0, 0, 0, 0, 0, 0}},
		{end - 8, []byte("all of 8")}, {end - 1, []byte{11}}, {end - 7, []byte("the rest")[:7]},
	} {
		was := bytes.Clone(c.b)
		if e := m.Poke(c.at, c.b); e != api.OK || !bytes.Equal(c.b, was) {
			t.Errorf("P4.3: Poke(%#x, %v): %d, and it is %v", c.at, was, e, c.b)
		}
		if b, e := m.Peek(c.at, len(c.b)); !bytes.Equal(b, c.b) || e != api.OK {
			t.Errorf("P4.3: Peek(%#x, %d) = %v, %d; want %v", c.at, len(c.b), b, e, c.b)
		}
	}
}

func TestPeekAndPokeOfNothing(t *testing.T) {
	m, s := filled(t, someTable()...)
	for _, at := range someAddresses(someTable()) {
		if b, e := m.Peek(at, 0); len(b) != 0 || e != api.OK {
			t.Errorf("P4.3: Peek(%#x, 0) = %v, %d; want nothing, OK", at, b, e)
		}
		if e, f := m.Poke(at, nil), m.Poke(at, []byte{}); e != api.OK || f != api.OK {
			t.Errorf("P4.3: Poke(%#x, nothing): %d, %d; want OK", at, e, f)
		}
	}
	wantHeld(t, "P4.4", m, s)
}

func TestPeekAndPokeRefused(t *testing.T) {
	m, s := filled(t, api.Region{Lo: 8, Hi: 16, Own: 7, Out: 7}, api.Region{Lo: 16, Hi: 32, Own: 7, Out: 7}, api.Region{Lo: 64, Hi: 64 + api.MaxMem, Own: 7, Out: 7}, api.Region{Lo: end - 8, Hi: end, Own: 7, Out: 7})
	for _, c := range []struct {
		at uint64
		n  int
	}{
		{0, 1}, {7, 1}, {7, 2}, {0, 8}, {0, 16}, {8, 9}, {15, 2}, {12, 8}, {8, 24}, {16, 17}, {31, 2}, {32, 1}, {32, 32}, {63, 1}, {63, 2}, // outside, or beyond an end
		{64, api.MaxMem + 1}, {65, api.MaxMem}, {64 + api.MaxMem, 1}, {end - 8, 9}, {end - 1, 2}, {end, 1}, {end, 8}, {all, 1}, {all, 2}, {all, 17}, {end - 8, 16}, {end - 8, 24},
	} {
		if b, e := m.Peek(c.at, c.n); len(b) != 0 || e != api.Refused {
			t.Errorf("P4.3: Peek(%#x, %d) = %v, %d; want nothing, Refused", c.at, c.n, b, e)
		}
		if e := m.Poke(c.at, bytes.Repeat([]byte{0xee}, c.n)); e != api.Refused {
			t.Errorf("P4.3: Poke(%#x, %d bytes): %d; want Refused", c.at, c.n, e)
		}
	}
	for _, n := range []int{-1, -4, -8, -16, math.MinInt, math.MinInt + 1, math.MaxInt, math.MaxInt - 7, 1<<32 + 1} {
		for _, at := range []uint64{0, 8, 15, 16, 24, 32, 64, end - 8, end, all} {
			if b, e := m.Peek(at, n); len(b) != 0 || e != api.Refused {
				t.Errorf("P4.3: Peek(%#x, %d) = %v, %d; want nothing, Refused", at, n, b, e)
			}
		}
	}
	wantHeld(t, "P4.4", m, s)
}

func TestBytesAreOfTheirOwn(t *testing.T) {
	m, s := filled(t, someTable()...)
	b, _ := m.Peek(24, 8)
	b = append(b, 0xee)
	clear(b[:8])
	wantHeld(t, "P4.3", m, s)
	given := []byte{1, 2, 3, 4}
	if m.Poke(24, given) != s.poke(24, given) {
		t.Error("P4.3: Poke(24, 4 bytes)")
	}
	clear(given)
	wantHeld(t, "P4.3", m, s)
}

func TestCopy(t *testing.T) {
	m, s := filled(t, someTable()...)
	c := m.Copy()
	wantHeld(t, "P4.3", c, s)
	for i, r := range someTable() {
		n := int(r.Hi - r.Lo)
		if e := m.Poke(r.Lo, bytes.Repeat([]byte{0xaa}, n)); e != api.OK {
			t.Fatalf("P4.3: Poke of region %d: %d", i, e)
		}
		wantHeld(t, "P4.3", c, s)
		was, _ := m.Peek(r.Lo, n)
		if e := c.Poke(r.Lo, bytes.Repeat([]byte{0xbb}, n)); e != s.poke(r.Lo, bytes.Repeat([]byte{0xbb}, n)) {
			t.Fatalf("P4.3: Poke of a copy's region %d: %d", i, e)
		}
		if b, _ := m.Peek(r.Lo, n); !bytes.Equal(b, was) {
			t.Errorf("P4.3: a copy's region %d is poked, and so is the memory's", i)
		}
	}
	d := c.Copy()
	_ = c.Store(0, 8, true, 1)
	_ = m.Store(0, 8, true, 2)
	if v, e := d.Load(0, 8, true); v != 0xbbbbbbbbbbbbbbbb || e != api.OK {
		t.Errorf("P4.3: a copy's copy has %#x, %d", v, e)
	}
}

func TestACopyHasTheSameTable(t *testing.T) {
	c, s := makeMem(t, someTable()...).Copy(), slow{table: someTable()}
	for _, at := range someAddresses(someTable()) {
		for _, n := range []int{1, 4, 8} {
			i, ok := c.Find(at, n)
			if j, is := s.find(at, n); i != j || ok != is {
				t.Fatalf("P4.3: of a copy, Find(%#x, %d) = %d, %v; want %d, %v", at, n, i, ok, j, is)
			}
			for what := range 8 {
				for _, own := range []bool{true, false} {
					if c.Allowed(at, n, own, what) != s.allowed(at, n, own, what) {
						t.Fatalf("P4.3: of a copy, Allowed(%#x, %d, %v, %d) is %v", at, n, own, what, c.Allowed(at, n, own, what))
					}
				}
			}
		}
	}
}

func TestMemoriesOfOneTableAreApart(t *testing.T) {
	a, b := makeMem(t, someTable()...), makeMem(t, someTable()...)
	_ = a.Store(0, 8, true, 5)
	if v, e := b.Load(0, 8, true); v != 0 || e != api.OK {
		t.Errorf("P4.1: one is stored into, and the other has %d, %d", v, e)
	}
}

// TestRegionsThatTouchAreApart: alike but for where they lie, and without a gap between.
func TestRegionsThatTouchAreApart(t *testing.T) {
	m, s := filled(t, rising(16)...)
	for i := range uint64(16) {
		at := 0x108 + 16*i
		if m.Store(at, 8, true, all-i) != s.store(at, 8, true, all-i) {
			t.Errorf("P4.2: Store(%#x, 8, true, ..)", at)
		}
		wantHeld(t, "P4.4", m, s)
	}
}

func TestWhatIsStoredIsLoadedAndAllOthersStay(t *testing.T) {
	m, s := filled(t, someTable()...)
	next := noise()
	addresses := someAddresses(someTable())
	for step := range 40000 {
		at, n, own, v := addresses[below(next, len(addresses))], []int{1, 4, 8, 8, 2, 0, -1, 16}[below(next, 8)], below(next, 2) == 0, next()
		if below(next, 3) == 0 {
			at &^= 7
		}
		e, f := m.Store(at, n, own, v), s.store(at, n, own, v)
		if e != f {
			t.Fatalf("P4.2: Store(%#x, %d, %v, %#x): %d; want %d", at, n, own, v, e, f)
		}
		if b, c := m.Peek(at, n); e == api.OK {
			if c != api.OK || !bytes.Equal(b, []byte{byte(v), byte(v >> 8), byte(v >> 16), byte(v >> 24), byte(v >> 32), byte(v >> 40), byte(v >> 48), byte(v >> 56)}[:n]) {
				t.Fatalf("P4.4: %#x is stored at %#x, and there is %v, %d", v, at, b, c)
			}
		}
		if step%500 == 0 {
			wantHeld(t, "P4.4", m, s)
		}
	}
	wantHeld(t, "P4.4", m, s)
}

func TestWhatIsStoredByOneIsLoadedByTheOther(t *testing.T) {
	m := makeMem(t, api.Region{Lo: 8, Hi: 24, Own: api.Write, Out: api.Read}, api.Region{Lo: 24, Hi: 32, Own: api.Read, Out: api.Write})
	for i, c := range []struct {
		at  uint64
		own bool
	}{{8, true}, {16, true}, {24, false}} {
		v := 0x0102030405060708 * uint64(i+1)
		if e := m.Store(c.at, 8, c.own, v); e != api.OK {
			t.Errorf("P4.2: Store(%#x, 8, %v, ..): %d", c.at, c.own, e)
		}
		if w, e := m.Load(c.at, 8, !c.own); w != v || e != api.OK {
			t.Errorf("P4.4: %#x is stored at %#x, and %#x, %d loaded", v, c.at, w, e)
		}
		if w, e := m.Load(c.at, 8, c.own); w != 0 || e != api.Refused {
			t.Errorf("P4.2: Load(%#x, 8, %v) = %#x, %d; want 0, Refused", c.at, c.own, w, e)
		}
	}
}

func TestWhatIsNotAllowedChangesNothing(t *testing.T) {
	m, s := filled(t, someTable()...)
	for _, at := range someAddresses(someTable()) {
		for _, n := range someCounts() {
			for _, own := range []bool{true, false} {
				if s.allowed(at, n, own, api.Write) {
					continue
				}
				if e := m.Store(at, n, own, 0xeeeeeeeeeeeeeeee); e != api.Refused {
					t.Fatalf("P4.4: Store(%#x, %d, %v, ..): %d; want Refused", at, n, own, e)
				}
			}
			if _, e := s.peek(at, n); e == api.Refused && n > 0 && n <= api.MaxMem+8 {
				if f := m.Poke(at, make([]byte, n)); f != api.Refused {
					t.Fatalf("P4.4: Poke(%#x, %d bytes): %d; want Refused", at, n, f)
				}
			}
		}
	}
	wantHeld(t, "P4.4", m, s)
}

// TestTheMemoryThatIsNone: New gives it beside Overlap, and no call may panic on it.
func TestTheMemoryThatIsNone(t *testing.T) {
	m, _ := mem.New(nil)
	if i, ok := m.Find(0, 1); i != 0 || ok || m.Allowed(0, 1, true, 0) {
		t.Errorf("P4.1: Find(0, 1) = %d, %v", i, ok)
	}
	v, e := m.Load(0, 8, true)
	w, f := m.Fetch(0, true)
	b, g := m.Peek(0, 8)
	if v != 0 || w != 0 || len(b) != 0 || e != api.Refused || f != api.Refused || g != api.Refused {
		t.Errorf("P4.2: it has %d, %d; %d, %d; %v, %d", v, e, w, f, b, g)
	}
	if e, f, g := m.Store(0, 8, true, 1), m.Poke(0, []byte{1}), m.Poke(0, nil); e != api.Refused || f != api.Refused || g != api.OK {
		t.Errorf("P4.2: it is written: %d, %d, %d", e, f, g)
	}
	if c := m.Copy(); c != nil {
		t.Errorf("P4.3: Copy() = %v", c)
	}
}
