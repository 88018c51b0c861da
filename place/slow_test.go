package place_test

import (
	"math/big"
	"math/rand"
	"slices"
	"strconv"
	"strings"

	"caponier/api"
	"caponier/ins"
	"caponier/syms"
)

// The tests' own, slow way of doing what the chapter says, for all that the layer is held against, and the objects that they have in common. Addresses are reckoned there by numbers that don't wrap.

// word is an instruction's word.
func word(x api.Ins) uint32 {
	w, code := ins.Encode(x)
	if code != api.OK {
		panic("no instruction")
	}
	return w
}

// line is an instruction, and its relocation, if it has one (of a name).
type line struct {
	x    api.Ins
	kind int
	name string
	add  int64
}

// made is an object of these Syms (name:offset; with + ahead: Out; with # ahead, behind that: in the data), of this data and these lines.
func made(names string, data []uint64, lines ...line) api.Obj {
	o := api.Obj{Data: data}
	for _, s := range strings.Fields(names) {
		s, out := strings.CutPrefix(s, "+")
		s, inData := strings.CutPrefix(s, "#")
		name, off, _ := strings.Cut(s, ":")
		n, _ := strconv.Atoi(off)
		o.Syms = append(o.Syms, api.Sym{Name: name, Out: out, InData: inData, Off: n})
	}
	for i, x := range lines {
		o.Text = append(o.Text, word(x.x))
		if x.name != "" {
			o.Rels = append(o.Rels, api.Rel{At: 4 * i, Kind: x.kind, Name: x.name, Add: x.add})
		}
	}
	return o
}

// of is data of these words.
func of(words ...uint64) []uint64 {
	return words
}

// lines are so many instructions that do nothing.
func lines(n int) []line {
	return slices.Repeat([]line{{x: api.Ins{Op: api.Addi}}}, n)
}

// suitable are, by the kinds of relocations, the operations that each may be of.
func suitable() map[int][]int {
	return map[int][]int{
		0: {api.Lui},
		1: {api.Addi, api.Lbu, api.Ld, api.Sb, api.Sd},
		2: {api.Jal},
		3: {api.Beq, api.Bne, api.Blt, api.Bge, api.Bltu, api.Bgeu},
	}
}

func two(n uint) *big.Int {
	return new(big.Int).Lsh(big.NewInt(1), n)
}

// signed is a number modulo 2^n, as one with a sign.
func signed(x *big.Int, n uint) *big.Int {
	m := new(big.Int).Mod(x, two(n))
	if m.Cmp(two(n-1)) >= 0 {
		m.Sub(m, two(n))
	}
	return m
}

// slowNumber is what a number becomes, and from where to where, and a multiple of what, it may be.
func slowNumber(kind int, p, v uint64) (x *big.Int, least, most, unit int64) {
	at, to := new(big.Int).SetUint64(p), new(big.Int).SetUint64(v)
	switch kind {
	case 0:
		sum := signed(new(big.Int).Add(to, big.NewInt(2048)), 64)
		x := new(big.Int).Sub(sum, new(big.Int).Mod(sum, big.NewInt(4096)))
		return x, -2147483648, 2147479552, 4096
	case 1:
		return signed(to, 12), -2048, 2047, 1
	case 2:
		return signed(new(big.Int).Sub(to, at), 64), -1048576, 1048574, 2
	}
	return signed(new(big.Int).Sub(to, at), 64), -4096, 4094, 2
}

func slowRelocate(w uint32, kind int, p, v uint64) (uint32, api.Code) {
	x, code := ins.Decode(w)
	if code != api.OK || !slices.Contains(suitable()[kind], x.Op) {
		return 0, api.Arg
	}
	n, least, most, unit := slowNumber(kind, p, v)
	if n.Cmp(big.NewInt(least)) < 0 || n.Cmp(big.NewInt(most)) > 0 || n.Int64()%unit != 0 {
		return 0, api.Range
	}
	x.Imm = n.Int64()
	return word(x), api.OK
}

func slowSizes(l []api.Obj) (int, int) {
	text, data := 0, 0
	for _, o := range l {
		for range o.Text {
			text++
		}
		for range o.Data {
			data++
		}
	}
	return text, data
}

func slowSpots(l []api.Obj, text, data uint64) ([]api.Spot, api.Code) {
	if _, code := syms.Check(l); code != api.OK {
		return nil, code
	}
	texts, datas := slowSizes(l)
	if texts > 4096 || datas > 1024 {
		return nil, api.Size
	}
	if text%8 > 0 || data%8 > 0 || text > 1073741824 || data > 1073741824 {
		return nil, api.Overlap
	}
	var s []api.Spot
	for i := range l {
		texts, datas := slowSizes(l[:i])
		s = append(s, api.Spot{Text: text + 4*uint64(texts), Data: data + 8*uint64(datas)})
	}
	return s, api.OK
}

// slowMeant is the address of what a name means in an object of a list that is right.
func slowMeant(l []api.Obj, s []api.Spot, in int, name string) uint64 {
	for _, own := range []bool{true, false} {
		for i, o := range l {
			for _, x := range o.Syms {
				if x.Name == name && (own && i == in || !own && x.Out) {
					if x.InData {
						return s[i].Data + uint64(x.Off)
					}
					return s[i].Text + uint64(x.Off)
				}
			}
		}
	}
	panic("the name means nothing")
}

func slowLink(l []api.Obj, text, data uint64) ([]uint32, []uint64, api.Code) {
	s, code := slowSpots(l, text, data)
	if code != api.OK {
		return nil, nil, code
	}
	var texts []uint32
	var datas []uint64
	for i, o := range l {
		for j, w := range o.Text {
			for _, r := range o.Rels {
				if r.At == 4*j {
					w, code = slowRelocate(w, r.Kind, s[i].Text+4*uint64(j), slowMeant(l, s, i, r.Name)+uint64(r.Add))
				}
				if code != api.OK {
					return nil, nil, code
				}
			}
			texts = append(texts, w)
		}
		datas = append(datas, o.Data...)
	}
	return texts, datas, api.OK
}

// someLine is any instruction of which a relocation may be, with one of any of these names, and any number in its place.
func someLine(r *rand.Rand, names []string) line {
	kind := r.Intn(4)
	ops := suitable()[kind]
	x := api.Ins{Op: ops[r.Intn(len(ops))]}
	switch ins.Form(x.Op) {
	case "I":
		x.Rd, x.Rs1, x.Imm = r.Intn(32), r.Intn(32), r.Int63n(4096)-2048
	case "S":
		x.Rs1, x.Rs2, x.Imm = r.Intn(32), r.Intn(32), r.Int63n(4096)-2048
	case "B":
		x.Rs1, x.Rs2, x.Imm = r.Intn(32), r.Intn(32), 2*r.Int63n(4096)-4096
	case "U":
		x.Rd, x.Imm = r.Intn(32), 4096*(r.Int63n(1<<20)-1<<19)
	case "J":
		x.Rd, x.Imm = r.Intn(32), 2*r.Int63n(1<<20)-1<<20
	}
	if len(names) == 0 || r.Intn(3) == 0 {
		return line{x: x}
	}
	far := []int64{0, 1, 2, 3, 4, 8, 64, 2047, 2048, 4096, 65536}
	return line{x: x, kind: kind, name: names[r.Intn(len(names))], add: far[r.Intn(len(far))] * (1 - 2*r.Int63n(2))}
}

// someList is any list of a few objects, of which most are right, and most relocations fit.
func someList(r *rand.Rand) []api.Obj {
	var l []api.Obj
	outs := []string{}
	for i := range r.Intn(6) {
		var all []line
		o := api.Obj{}
		texts, datas := r.Intn(12), r.Intn(5)
		own := []string{}
		for j := range r.Intn(5) {
			s := api.Sym{Name: "o" + strconv.Itoa(i) + strconv.Itoa(j), InData: r.Intn(2) == 0, Out: r.Intn(2) == 0}
			s.Off = 4 * r.Intn(texts+1)
			if s.InData {
				s.Off = 8 * r.Intn(datas+1)
			}
			if r.Intn(10) == 0 {
				s.Name = "common"
			}
			if slices.Contains(own, s.Name) {
				continue
			}
			if s.Out {
				outs = append(outs, s.Name)
			}
			o.Syms, own = append(o.Syms, s), append(own, s.Name)
		}
		names := slices.Concat(own, own, outs)
		if r.Intn(40) == 0 {
			names = append(names, "nowhere")
		}
		for range texts {
			x := someLine(r, names)
			if x.add%2 != 0 && x.kind >= api.RelJump && r.Intn(8) > 0 {
				x.add = 0
			}
			all = append(all, x)
		}
		for range datas {
			o.Data = append(o.Data, r.Uint64())
		}
		m := made("", o.Data, all...)
		o.Text, o.Rels = m.Text, m.Rels
		r.Shuffle(len(o.Rels), func(a, b int) { o.Rels[a], o.Rels[b] = o.Rels[b], o.Rels[a] })
		l = append(l, o)
	}
	r.Shuffle(len(l), func(i, j int) { l[i], l[j] = l[j], l[i] })
	return l
}
