package place_test

import (
	"math/rand"
	"slices"
	"strconv"
	"testing"

	"caponier/api"
	"caponier/cpu"
	"caponier/ins"
	"caponier/mem"
	"caponier/place"
)

// What follows (P8.4): addresses that come together, and lists that are moved.

// run runs the words of a text that lies at an address, on data that lies at another.
func run(t *testing.T, text []uint32, at uint64, data []uint64, to uint64) (api.State, *mem.Mem) {
	t.Helper()
	up := func(n int) uint64 { return uint64(n+7) / 8 * 8 }
	table := []api.Region{
		{Lo: at, Hi: at + up(4*len(text)), Own: api.Fetch},
		{Lo: to, Hi: to + up(8*len(data)), Own: api.Read | api.Write},
	}
	if at > to {
		slices.Reverse(table)
	}
	m, code := mem.New(table)
	if code != api.OK {
		t.Fatalf("the test is wrong: no memory, %d", code)
	}
	for i, w := range text {
		m.Poke(at+4*uint64(i), []byte{byte(w), byte(w >> 8), byte(w >> 16), byte(w >> 24)})
	}
	for i, w := range data {
		m.Store(to+8*uint64(i), 8, true, w)
	}
	c := cpu.New(m, nil, api.State{Pc: at, Own: true})
	c.Run(1000)
	return c.State(), m
}

// TestLuiAndAddi: of one name, done, they come to its address, whatever its lowest 12 bits are.
func TestLuiAndAddi(t *testing.T) {
	l := []api.Obj{
		made("", of(1),
			line{x: api.Ins{Op: api.Lui, Rd: 5, Imm: 4096}, kind: api.RelHi, name: "d"},
			line{x: api.Ins{Op: api.Addi, Rd: 5, Rs1: 5, Imm: -1}, kind: api.RelLo, name: "d"},
			line{x: api.Ins{Op: api.Lui, Rd: 6}, kind: api.RelHi, name: "f", add: -3},
			line{x: api.Ins{Op: api.Addi, Rd: 6, Rs1: 6}, kind: api.RelLo, name: "f", add: -3},
			line{x: api.Ins{Op: api.Lui, Rd: 7}, kind: api.RelHi, name: "d", add: 65535},
			line{x: api.Ins{Op: api.Addi, Rd: 7, Rs1: 7}, kind: api.RelLo, name: "d", add: 65535},
			line{x: api.Ins{Op: api.Ebreak}}),
		made("+f:0 +#d:0", of(2), lines(1)...),
	}
	for _, text := range []uint64{0, 0x1000, 0x17e0, 0x17e8, 0x1ff8, highest} {
		for _, data := range []uint64{0x2000, 0x27e8, 0x27f0, 0x27f8, 0x2800, 0x2ff0, 0x2ff8, 0x12ff8, highest - 2048, highest - 16, highest - 8} {
			words, datas, e := place.Link(l, text, data)
			if e != api.OK {
				t.Fatalf("P8.3: at %x and %x: %d", text, data, e)
			}
			if text < data+16 && data < text+32 { // Nothing runs where they lie on one another.
				continue
			}
			s, _ := run(t, words, text, datas, data)
			want := [3]uint64{data + 8, text + 28 - 3, data + 8 + 65535}
			if got := [3]uint64(s.Regs[5:8]); s.Done != api.Stopped || got != want {
				t.Errorf("P8.4: at %x and %x they come to %x; want %x", text, data, got, want)
			}
		}
	}
}

// TestLuiAndAddiOfAnyAddress: wherever both fit, they come to the address; they do up to 2^31 less 2048, and from there down as far below 0.
func TestLuiAndAddiOfAnyAddress(t *testing.T) {
	r := rand.New(rand.NewSource(84))
	all := []uint64{0x12fff, 0x127ff, 0x12800, 0x12801, 0x12000, 0x7ffff7ff, 0x7ffff800, 1<<64 - 1<<31, 1<<64 - 1<<31 - 2048, 1<<64 - 1<<31 - 2049}
	all = append(all, numbers(r)...)
	for v := range uint64(8200) {
		all = append(all, v, -v)
	}
	for _, v := range all {
		lui, e := place.Relocate(word(api.Ins{Op: api.Lui, Rd: 5}), api.RelHi, 0, v)
		addi, f := place.Relocate(word(api.Ins{Op: api.Addi, Rd: 5, Rs1: 5}), api.RelLo, 0, v)
		if fits := v < 1<<31-2048 || v >= 1<<64-1<<31-2048; (e == api.OK) != fits || f != api.OK {
			t.Fatalf("P8.2: %x: %d and %d", v, e, f)
		}
		x, _ := ins.Decode(lui)
		y, _ := ins.Decode(addi)
		if got := uint64(x.Imm + y.Imm); e == api.OK && got != v {
			t.Fatalf("P8.4: of %x they come to %x", v, got)
		}
	}
	if w, e := place.Relocate(word(api.Ins{Op: api.Lui}), api.RelHi, 0, 0x12fff); e != api.OK || w != word(api.Ins{Op: api.Lui, Imm: 0x13000}) {
		t.Errorf("the chapter's example: %x, %d", w, e)
	}
	if w, e := place.Relocate(word(api.Ins{Op: api.Addi}), api.RelLo, 0, 0x12fff); e != api.OK || w != word(api.Ins{Op: api.Addi, Imm: -1}) {
		t.Errorf("the chapter's example: %x, %d", w, e)
	}
}

// summing is a list that runs: it sums the data of the other object, in a loop there, and stores it in its own.
func summing() []api.Obj {
	return []api.Obj{
		made("+main:0 #sum:8 stop:20", of(9, 9),
			line{x: api.Ins{Op: api.Addi, Rd: 10, Imm: 1}},
			line{x: api.Ins{Op: api.Jal, Rd: 1}, kind: api.RelJump, name: "add"},
			line{x: api.Ins{Op: api.Lui, Rd: 6}, kind: api.RelHi, name: "sum"},
			line{x: api.Ins{Op: api.Sd, Rs1: 6, Rs2: 10}, kind: api.RelLo, name: "sum"},
			line{x: api.Ins{Op: api.Beq}, kind: api.RelBranch, name: "stop"},
			line{x: api.Ins{Op: api.Ebreak}}),
		made("+#list:0 +#end:32", of(2, 30, 400, 5000)),
		made("+add:0 loop:8 done:28", nil,
			line{x: api.Ins{Op: api.Lui, Rd: 5}, kind: api.RelHi, name: "list"},
			line{x: api.Ins{Op: api.Addi, Rd: 5, Rs1: 5}, kind: api.RelLo, name: "list"},
			line{x: api.Ins{Op: api.Ld, Rd: 7, Rs1: 5}},
			line{x: api.Ins{Op: api.Add, Rd: 10, Rs1: 10, Rs2: 7}},
			line{x: api.Ins{Op: api.Addi, Rd: 5, Rs1: 5, Imm: 8}},
			line{x: api.Ins{Op: api.Addi, Rd: 8, Rs1: 8, Imm: 1}},
			line{x: api.Ins{Op: api.Slti, Rd: 9, Rs1: 8, Imm: 4}},
			line{x: api.Ins{Op: api.Bne, Rs1: 9}, kind: api.RelBranch, name: "loop"},
			line{x: api.Ins{Op: api.Jalr, Rs1: 1}}),
	}
}

// TestWhatIsLinkedRuns: wherever it lies.
func TestWhatIsLinkedRuns(t *testing.T) {
	for _, text := range []uint64{0, 0x10000, 0xfff8, highest} {
		for _, data := range []uint64{0x20000, 0x207f0, 0x207f8, 0x20800, 0x20fe8, 0x20ff0, highest - 4096} {
			words, datas, e := place.Link(summing(), text, data)
			if e != api.OK {
				t.Fatalf("P8.3: at %x and %x: %d", text, data, e)
			}
			s, m := run(t, words, text, datas, data)
			if sum, e := m.Load(data+8, 8, true); s.Done != api.Stopped || s.Pc != text+20 || e != api.OK || sum != 5433 {
				t.Errorf("P8.4: at %x and %x: it stands at %x, the sum is %d", text, data, s.Pc, sum)
			}
		}
	}
}

// TestMoved: moved, and linked again, only what is done of names differs: nothing else of its instruction, no other instruction, no data.
func TestMoved(t *testing.T) {
	r := rand.New(rand.NewSource(48))
	lists := rightLists()
	for i := range 300 {
		lists = append(lists, listed{"list " + strconv.Itoa(i), someList(r)})
	}
	for _, x := range lists {
		was, data, e := place.Link(x.l, textBase, dataBase)
		if e != api.OK {
			continue
		}
		for _, by := range [][2]uint64{{8, 0}, {0, 8}, {2048, 2048}, {4096, 4096}, {0x100000, 0x100008}, {highest - 0x10000, highest - 0x10000}} {
			text, datas, e := place.Link(x.l, textBase+by[0], dataBase+by[1])
			if e == api.Range && by[0] != by[1] { // Text and data are too far from each other by now.
				continue
			}
			if e != api.OK || !slices.Equal(data, datas) || len(text) != len(was) {
				t.Fatalf("P8.4: %s: moved by %x it is %d, %x", x.what, by, e, datas)
			}
			wantMoved(t, x, was, text, by[0] == by[1])
		}
	}
}

// wantMoved wants two links of a list to differ only in what is done of names; if both bases moved alike, no jump or branch differs.
func wantMoved(t *testing.T, x listed, was, text []uint32, alike bool) {
	t.Helper()
	begin := 0
	for _, o := range x.l {
		kinds := map[int]int{}
		for _, r := range o.Rels {
			kinds[r.At/4] = r.Kind
		}
		for j, w := range o.Text {
			kind, done := kinds[j]
			a, _ := ins.Decode(was[begin+j])
			b, _ := ins.Decode(text[begin+j])
			c, _ := ins.Decode(w)
			if alike && kind >= api.RelJump && a != b {
				t.Errorf("P8.4: %s: moved with what it leads to, %+v is %+v", x.what, a, b)
			}
			if !done && (was[begin+j] != w || text[begin+j] != w) {
				t.Errorf("P8.4: %s: a word without relocations is %x, %x; want %x", x.what, was[begin+j], text[begin+j], w)
			}
			a.Imm, b.Imm, c.Imm = 0, 0, 0
			if a != c || b != c {
				t.Errorf("P8.4: %s: done and moved, %+v is %+v, %+v", x.what, c, a, b)
			}
		}
		begin += len(o.Text)
	}
}

// TestOtherOrders: in another order of the objects each instruction of the text leads to the same things.
func TestOtherOrders(t *testing.T) {
	l := summing()
	for _, order := range [][]int{{0, 2, 1}, {1, 0, 2}, {1, 2, 0}, {2, 0, 1}, {2, 1, 0}} {
		moved := []api.Obj{l[order[0]], l[order[1]], l[order[2]]}
		words, datas, e := place.Link(moved, 0x10000, 0x20000)
		if e != api.OK {
			t.Fatalf("P8.3: in the order %v: %d", order, e)
		}
		at := slices.Index(order, 0)
		s, _ := place.Spots(moved, 0x10000, 0x20000)
		// A jump ahead of all leads to main.
		jump, e := place.Relocate(word(api.Ins{Op: api.Jal}), api.RelJump, 0x10000-4, s[at].Text)
		if e != api.OK {
			t.Fatalf("P8.2: %d", e)
		}
		state, m := run(t, append([]uint32{word(api.Ins{Op: api.Addi}), jump}, words...), 0x10000-8, datas, 0x20000)
		if sum, _ := m.Load(s[at].Data+8, 8, true); state.Done != api.Stopped || sum != 5433 {
			t.Errorf("P8.4: in the order %v the sum is %d", order, sum)
		}
	}
}
