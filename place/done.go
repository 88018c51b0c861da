package place

import (
	"caponier/api"
	"caponier/bits"
	"caponier/ins"
	"caponier/obj"
	"caponier/syms"
)

// lowBits is how many bits of an address RelLo takes; they are signed, so that RelHi must be one unit more from half of them on.
const (
	lowBits = 12
	half    = 1 << (lowBits - 1)
)

// misfit is what leaves by a panic where a relocation doesn't fit.
type misfit struct{}

// fitting answers what is done, or Range, if a misfit leaves it.
func fitting[T any](do func() T) (answer T, code api.Code) {
	defer func() {
		switch x := recover().(type) {
		case nil:
		case misfit:
			code = api.Range
		default: // not the relocation's fault
			panic(x)
		}
	}()
	return do(), api.OK
}

// allText is the text of all objects, done. Callers see to it that the list is right.
func allText(l []api.Obj, s []api.Spot) []uint32 {
	var text []uint32
	for i, o := range l {
		begin := len(text)
		text = append(text, o.Text...)
		for _, r := range o.Rels {
			at := begin + r.At/textUnit
			text[at] = done(text[at], r.Kind, s[i].Text+uint64(r.At), target(l, s, i, r))
		}
	}
	return text
}

// allData is the data of all objects.
func allData(l []api.Obj) []uint64 {
	var data []uint64
	for _, o := range l {
		data = append(data, o.Data...)
	}
	return data
}

// target is the address of what a relocation of an object means, and Add; below 0 it wraps, as all that is reckoned of it does.
func target(l []api.Obj, s []api.Spot, in int, r api.Rel) uint64 {
	d, _ := syms.Find(l, in, r.Name)
	at, _ := Address(l, s, d)
	return at + uint64(r.Add)
}

// suits tells whether a relocation of a kind may be of a word. Layer 6 knows: an object of just these two may be only then.
func suits(w uint32, kind int) bool {
	return obj.May(api.Obj{Text: []uint32{w}, Rels: []api.Rel{{Kind: kind, Name: "x"}}})
}

// done is a word of which a relocation is done; a misfit leaves it, if there is no such instruction. Callers see to it that the kind suits the word.
func done(w uint32, kind int, p, v uint64) uint32 {
	x, _ := ins.Decode(w)
	x.Imm = number(kind, p, v)
	w, code := ins.Encode(x)
	if code != api.OK {
		panic(misfit{})
	}
	return w
}

// number is what an instruction's number becomes by a relocation.
func number(kind int, p, v uint64) int64 {
	switch kind {
	case api.RelHi:
		high, _ := bits.Put(v+half, 0, lowBits, 0)
		return int64(high)
	case api.RelLo:
		return bits.Sign(v, lowBits)
	}
	return int64(v - p) // a jump's, or a branch's
}
