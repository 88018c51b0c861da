package obj

import (
	"caponier/api"
	"caponier/ins"
)

// How many there may be of what api has no limit for, and how great numbers may be.
const (
	maxSyms    = 256
	maxRels    = 1024
	maxEntries = 64
	maxAdd     = 65536
	maxPointed = 64 // words at which a parameter points
)

// How many bytes a word has.
const (
	textUnit = 4
	dataUnit = 8
)

// What may occur but once in an object.
const (
	symName = iota
	relPlace
	entryName
)

// thing is something that may occur but once: of what kind it is, and its name, or its place.
type thing struct {
	kind int
	name string
	at   int
}

// looker looks whether an object may be: what its instructions do, and where in its list each thing was seen.
type looker struct {
	o    api.Obj
	ops  []int
	seen map[thing]int
}

// look begins to look at an object, of whose things none was seen.
func look(o api.Obj, ops []int) looker {
	return looker{o: o, ops: ops, seen: map[thing]int{}}
}

// fewEnough tells whether an object has no more of anything than may be.
func fewEnough(o api.Obj) bool {
	return len(o.Text) <= api.MaxText &&
		len(o.Data) <= api.MaxData &&
		len(o.Syms) <= maxSyms &&
		len(o.Rels) <= maxRels &&
		len(o.Entries) <= maxEntries
}

// operations are what a text's words do, if each is an instruction's.
func operations(text []uint32) ([]int, bool) {
	var ops []int
	for _, w := range text {
		x, code := ins.Decode(w)
		if code != api.OK {
			return nil, false
		}
		ops = append(ops, x.Op)
	}
	return ops, true
}

// right tells whether all is as it must be. The Syms come first, since entries ask where their names were seen.
func (l looker) right() bool {
	for i, s := range l.o.Syms {
		if !l.sym(i, s) {
			return false
		}
	}
	for i, r := range l.o.Rels {
		if !l.rel(i, r) {
			return false
		}
	}
	for i, e := range l.o.Entries {
		if !l.entry(i, e) {
			return false
		}
	}
	return true
}

// sym tells whether a Sym may be, behind those ahead of it.
func (l looker) sym(i int, s api.Sym) bool {
	unit, words := textUnit, len(l.o.Text)
	if s.InData {
		unit, words = dataUnit, len(l.o.Data)
	}
	return Name(s.Name) && l.first(thing{kind: symName, name: s.Name}, i) &&
		s.Off%unit == 0 && within(s.Off, unit*words)
}

// rel tells whether a relocation may be, behind those ahead of it.
func (l looker) rel(i int, r api.Rel) bool {
	if r.At%textUnit != 0 || !within(r.At, textUnit*len(l.ops)-1) {
		return false
	}
	return suits(r.Kind, l.ops[r.At/textUnit]) && l.first(thing{kind: relPlace, at: r.At}, i) &&
		Name(r.Name) && r.Add >= -maxAdd && r.Add <= maxAdd
}

// entry tells whether an entry may be, behind those ahead of it.
func (l looker) entry(i int, e api.Entry) bool {
	at, ok := l.seen[thing{kind: symName, name: e.Name}]
	if !ok || l.o.Syms[at].InData || !l.o.Syms[at].Out {
		return false
	}
	return l.first(thing{kind: entryName, name: e.Name}, i) && paramsMay(e.Params)
}

// paramsMay tells whether an entry may have such parameters.
func paramsMay(l []int) bool {
	if len(l) > api.MaxParams {
		return false
	}
	for _, n := range l {
		if !within(n, maxPointed) {
			return false
		}
	}
	return true
}

// first puts down where a thing is, and tells whether it wasn't seen ahead of that.
func (l looker) first(t thing, i int) bool {
	if _, ok := l.seen[t]; ok {
		return false
	}
	l.seen[t] = i
	return true
}

// suits tells whether a relocation of a kind may be of an instruction that does this.
func suits(kind, op int) bool {
	switch kind {
	case api.RelHi:
		return op == api.Lui
	case api.RelLo:
		return op == api.Addi || op == api.Lbu || op == api.Ld || op == api.Sb || op == api.Sd
	case api.RelJump:
		return op == api.Jal
	case api.RelBranch:
		return ins.Form(op) == "B"
	}
	return false
}

// within tells whether a number is one from 0 to the most that may be.
func within(x, most int) bool {
	return x >= 0 && x <= most
}
