package obj_test

import (
	"encoding/binary"
	"math/rand"
	"regexp"
	"slices"
	"strings"

	"caponier/api"
	"caponier/ins"
)

// The tests' own, slow way of doing what the chapter says, for all that the layer is held against.

var slowNames = regexp.MustCompile(`^[a-z_][a-z0-9_]{0,23}$`)

func slowMay(o api.Obj) bool {
	if len(o.Text) > 4096 || len(o.Data) > 1024 || len(o.Syms) > 256 || len(o.Rels) > 1024 || len(o.Entries) > 64 {
		return false
	}
	for _, w := range o.Text {
		if _, e := ins.Decode(w); e != api.OK {
			return false
		}
	}
	for i, s := range o.Syms {
		most, unit := 4*len(o.Text), 4
		if s.InData {
			most, unit = 8*len(o.Data), 8
		}
		if !slowNames.MatchString(s.Name) || s.Off%unit != 0 || s.Off < 0 || s.Off > most {
			return false
		}
		if slices.ContainsFunc(o.Syms[:i], func(x api.Sym) bool { return x.Name == s.Name }) {
			return false
		}
	}
	for i, r := range o.Rels {
		if !slowNames.MatchString(r.Name) || r.Add < -65536 || r.Add > 65536 || !slowSuits(o, r) {
			return false
		}
		if slices.ContainsFunc(o.Rels[:i], func(x api.Rel) bool { return x.At == r.At }) {
			return false
		}
	}
	for i, n := range o.Entries {
		if !slices.ContainsFunc(o.Syms, func(x api.Sym) bool { return x.Name == n.Name && x.Out && !x.InData }) {
			return false
		}
		if slices.ContainsFunc(o.Entries[:i], func(x api.Entry) bool { return x.Name == n.Name }) {
			return false
		}
		if len(n.Params) > 6 || slices.ContainsFunc(n.Params, func(x int) bool { return x < 0 || x > 64 }) {
			return false
		}
	}
	return true
}

func slowSuits(o api.Obj, r api.Rel) bool {
	for i, w := range o.Text {
		if r.At == 4*i {
			x, _ := ins.Decode(w)
			return slices.Contains(suitable()[r.Kind], x.Op)
		}
	}
	return false
}

// suitable are, by the kinds of relocations, the operations that each may be of.
func suitable() map[int][]int {
	return map[int][]int{
		0: {api.Lui},
		1: {api.Addi, api.Lbu, api.Ld, api.Sb, api.Sd},
		2: {api.Jal},
		3: {api.Beq, api.Bne, api.Blt, api.Bge, api.Bltu, api.Bgeu},
	}
}

// slowEncode writes an object's bytes, whether it may be or not.
func slowEncode(o api.Obj) []byte {
	le := binary.LittleEndian
	name := func(b []byte, s string) []byte { return append(append(b, byte(len(s))), s...) }
	b := []byte{0x4f, 0x42, 0x4a, 0x31}
	b = le.AppendUint16(b, uint16(len(o.Text)))
	b = le.AppendUint16(b, uint16(len(o.Data)))
	b = le.AppendUint16(b, uint16(len(o.Syms)))
	b = le.AppendUint16(b, uint16(len(o.Rels)))
	b = le.AppendUint16(b, uint16(len(o.Entries)))
	for _, w := range o.Text {
		b = le.AppendUint32(b, w)
	}
	for _, w := range o.Data {
		b = le.AppendUint64(b, w)
	}
	for _, s := range o.Syms {
		b = name(b, s.Name)
		switch {
		case s.InData && s.Out:
			b = append(b, 3)
		case s.Out:
			b = append(b, 2)
		case s.InData:
			b = append(b, 1)
		default:
			b = append(b, 0)
		}
		b = le.AppendUint32(b, uint32(s.Off))
	}
	for _, r := range o.Rels {
		b = le.AppendUint32(b, uint32(r.At))
		b = name(append(b, byte(r.Kind)), r.Name)
		b = le.AppendUint64(b, uint64(r.Add))
	}
	for _, n := range o.Entries {
		b = append(name(b, n.Name), byte(len(n.Params)))
		for _, x := range n.Params {
			b = append(b, byte(x))
		}
	}
	return b
}

// slowReader reads bytes by an index; short, once they have ended too soon.
type slowReader struct {
	b     []byte
	at    int
	short bool
}

func (r *slowReader) number(n int) uint64 {
	v := uint64(0)
	for i := 0; i < n; i++ {
		if r.at >= len(r.b) {
			r.short = true
			return 0
		}
		v += uint64(r.b[r.at]) << (8 * i)
		r.at++
	}
	return v
}

func (r *slowReader) name() string {
	var s strings.Builder
	for n := int(r.number(1)); n > 0 && !r.short; n-- {
		s.WriteByte(byte(r.number(1)))
	}
	return s.String()
}

// slowDecode reads the object that bytes are, if there is one that may be.
func slowDecode(b []byte) (api.Obj, bool) {
	r := &slowReader{b: b}
	if r.number(4) != 0x314a424f {
		return api.Obj{}, false
	}
	var n [5]int
	for i := range n {
		n[i] = int(r.number(2))
	}
	o := api.Obj{}
	for i := 0; i < n[0] && !r.short; i++ {
		o.Text = append(o.Text, uint32(r.number(4)))
	}
	for i := 0; i < n[1] && !r.short; i++ {
		o.Data = append(o.Data, r.number(8))
	}
	for i := 0; i < n[2] && !r.short; i++ {
		s := api.Sym{Name: r.name()}
		marks := r.number(1)
		if marks > 3 {
			return api.Obj{}, false
		}
		s.InData, s.Out = marks%2 == 1, marks >= 2
		s.Off = int(r.number(4))
		o.Syms = append(o.Syms, s)
	}
	for i := 0; i < n[3] && !r.short; i++ {
		x := api.Rel{At: int(r.number(4))}
		x.Kind = int(r.number(1))
		x.Name = r.name()
		x.Add = int64(r.number(8))
		o.Rels = append(o.Rels, x)
	}
	for i := 0; i < n[4] && !r.short; i++ {
		e := api.Entry{Name: r.name()}
		for k := int(r.number(1)); k > 0 && !r.short; k-- {
			e.Params = append(e.Params, int(r.number(1)))
		}
		o.Entries = append(o.Entries, e)
	}
	if r.short || r.at != len(b) || !slowMay(o) {
		return api.Obj{}, false
	}
	return o, true
}

// slowSame holds two objects against each other element by element.
func slowSame(a, b api.Obj) bool {
	if len(a.Text) != len(b.Text) || len(a.Data) != len(b.Data) || len(a.Syms) != len(b.Syms) || len(a.Rels) != len(b.Rels) || len(a.Entries) != len(b.Entries) {
		return false
	}
	for i := range a.Text {
		if a.Text[i] != b.Text[i] {
			return false
		}
	}
	for i := range a.Data {
		if a.Data[i] != b.Data[i] {
			return false
		}
	}
	for i, x := range a.Syms {
		if y := b.Syms[i]; x.Name != y.Name || x.InData != y.InData || x.Off != y.Off || x.Out != y.Out {
			return false
		}
	}
	for i, x := range a.Rels {
		if y := b.Rels[i]; x.At != y.At || x.Kind != y.Kind || x.Name != y.Name || x.Add != y.Add {
			return false
		}
	}
	for i, x := range a.Entries {
		y := b.Entries[i]
		if x.Name != y.Name || len(x.Params) != len(y.Params) {
			return false
		}
		for k := range x.Params {
			if x.Params[k] != y.Params[k] {
				return false
			}
		}
	}
	return true
}

// someName is any name that may be.
func someName(r *rand.Rand) string {
	const first, all = "abcdefghijklmnopqrstuvwxyz_", "abcdefghijklmnopqrstuvwxyz_0123456789"
	b := []byte{first[r.Intn(len(first))]}
	for range r.Intn(24) {
		b = append(b, all[r.Intn(len(all))])
	}
	return string(b)
}

// someObject is any object that may be, of few elements.
func someObject(r *rand.Rand) api.Obj {
	words := full().Text
	var o api.Obj
	for range r.Intn(12) {
		o.Text = append(o.Text, words[r.Intn(len(words))])
	}
	for range r.Intn(5) {
		o.Data = append(o.Data, r.Uint64()>>r.Intn(64))
	}
	for range r.Intn(8) {
		s := api.Sym{Name: someName(r), InData: r.Intn(2) == 1, Out: r.Intn(2) == 1}
		s.Off = 4 * r.Intn(len(o.Text)+1)
		if s.InData {
			s.Off = 8 * r.Intn(len(o.Data)+1)
		}
		if slices.ContainsFunc(o.Syms, func(x api.Sym) bool { return x.Name == s.Name }) {
			continue
		}
		o.Syms = append(o.Syms, s)
		if s.Out && !s.InData && r.Intn(4) > 0 {
			e := api.Entry{Name: s.Name}
			for range r.Intn(7) {
				e.Params = append(e.Params, r.Intn(65))
			}
			o.Entries = append(o.Entries, e)
		}
	}
	for _, i := range r.Perm(len(o.Text)) {
		x, _ := ins.Decode(o.Text[i])
		for kind, l := range suitable() {
			if slices.Contains(l, x.Op) {
				o.Rels = append(o.Rels, api.Rel{At: 4 * i, Kind: kind, Name: someName(r), Add: r.Int63n(131073) - 65536})
			}
		}
	}
	return o
}
