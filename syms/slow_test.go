package syms_test

import (
	"math/rand"
	"slices"
	"strings"

	"caponier/api"
	"caponier/ins"
	"caponier/obj"
)

// The tests' own, slow way of doing what the chapter says, for all that the layer is held against, and the objects that they have in common.

// words are instructions of which a relocation may be, by its kind.
func words() []uint32 {
	var l []uint32
	for _, op := range []int{api.Lui, api.Addi, api.Jal, api.Beq} {
		w, code := ins.Encode(api.Ins{Op: op})
		if code != api.OK {
			panic("no instruction")
		}
		l = append(l, w)
	}
	return l
}

// made is an object of a word of text, and one of data, that has these Syms (with + ahead: Out; with # ahead, behind that: in the data), and entries, and relocations by these names, of each kind in turn.
func made(syms, rels, entries string) api.Obj {
	o := api.Obj{Text: []uint32{0x00100073}, Data: []uint64{7}}
	for _, s := range strings.Fields(syms) {
		name, out := strings.CutPrefix(s, "+")
		name, data := strings.CutPrefix(name, "#")
		o.Syms = append(o.Syms, api.Sym{Name: name, Out: out, InData: data})
	}
	for i, s := range strings.Fields(rels) {
		o.Rels = append(o.Rels, api.Rel{At: 4 * len(o.Text), Kind: i % 4, Name: s, Add: int64(i)})
		o.Text = append(o.Text, words()[i%4])
	}
	for i, s := range strings.Fields(entries) {
		o.Entries = append(o.Entries, api.Entry{Name: s, Params: make([]int, i%7)})
	}
	return o
}

// slowFind goes through the objects as the chapter's words do.
func slowFind(l []api.Obj, in int, name string) (api.Def, bool) {
	for i, o := range l {
		for j, s := range o.Syms {
			if i == in && s.Name == name {
				return api.Def{Obj: i, Sym: j}, true
			}
		}
	}
	for i, o := range l {
		for j, s := range o.Syms {
			if i != in && 0 <= in && in < len(l) && s.Name == name && s.Out {
				return api.Def{Obj: i, Sym: j}, true
			}
		}
	}
	return api.Def{}, false
}

// slowClash tells whether a name clashes.
func slowClash(l []api.Obj, name string) bool {
	outs, entries := 0, 0
	for _, o := range l {
		if slices.ContainsFunc(o.Syms, func(s api.Sym) bool { return s.Out && s.Name == name }) {
			outs++
		}
		if slices.ContainsFunc(o.Entries, func(e api.Entry) bool { return e.Name == name }) {
			entries++
		}
	}
	return outs > 1 || entries > 1
}

// slowMissing tells whether a name means nothing in an object that uses it.
func slowMissing(l []api.Obj, name string) bool {
	for i, o := range l {
		for _, r := range o.Rels {
			if _, ok := slowFind(l, i, name); r.Name == name && !ok {
				return true
			}
		}
	}
	return false
}

// allNames are all names that objects have or use, rising.
func allNames(l []api.Obj) []string {
	var names []string
	for _, o := range l {
		for _, s := range o.Syms {
			names = append(names, s.Name)
		}
		for _, r := range o.Rels {
			names = append(names, r.Name)
		}
		for _, e := range o.Entries {
			names = append(names, e.Name)
		}
	}
	slices.Sort(names)
	return slices.Compact(names)
}

func slowCheck(l []api.Obj) (string, api.Code) {
	if len(l) > 16 || slices.ContainsFunc(l, func(o api.Obj) bool { return !obj.May(o) }) {
		return "", api.Arg
	}
	for _, s := range allNames(l) {
		if slowClash(l, s) {
			return s, api.Twice
		}
	}
	for _, s := range allNames(l) {
		if slowMissing(l, s) {
			return s, api.Undefined
		}
	}
	return "", api.OK
}

func slowOuts(l []api.Obj) []string {
	var outs []string
	for _, name := range allNames(l) {
		for _, o := range l {
			if slices.ContainsFunc(o.Syms, func(s api.Sym) bool { return s.Out && s.Name == name }) {
				outs = append(outs, name)
				break
			}
		}
	}
	return outs
}

func slowEntries(l []api.Obj) []api.Def {
	if _, code := slowCheck(l); code != api.OK {
		return nil
	}
	var defs []api.Def
	for i, o := range l {
		for _, e := range o.Entries {
			d, _ := slowFind(l, i, e.Name)
			defs = append(defs, d)
		}
	}
	return defs
}

func slowUsed(l []api.Obj) []api.Def {
	if _, code := slowCheck(l); code != api.OK {
		return nil
	}
	var defs []api.Def
	for i, o := range l {
		for j := range o.Syms {
			if slowIsUsed(l, api.Def{Obj: i, Sym: j}) {
				defs = append(defs, api.Def{Obj: i, Sym: j})
			}
		}
	}
	return defs
}

// slowIsUsed tells whether a relocation means a Sym.
func slowIsUsed(l []api.Obj, want api.Def) bool {
	for i, o := range l {
		for _, r := range o.Rels {
			if d, ok := slowFind(l, i, r.Name); ok && d == want {
				return true
			}
		}
	}
	return false
}

// pool are names of which many are alike but for their end.
func pool() []string {
	return []string{"a", "b", "ab", "a_", "a0", "aa", "_", "__", "_a", "abcdefghijklmnopqrstuvwx", "abcdefghijklmnopqrstuvw_", "abcdefghijklmnopqrstuvw", "f", "g", "main", "zz"}
}

// someList is any list of objects that may each be, of names of the pool; the fewer are Out, the likelier it is right.
func someList(r *rand.Rand) []api.Obj {
	names := pool()
	few := 1 + r.Intn(8)
	var l []api.Obj
	for range r.Intn(6) {
		var syms, rels, entries []string
		for _, i := range r.Perm(len(names))[:r.Intn(8)] {
			mark := []string{"", "#"}[r.Intn(2)]
			if r.Intn(2+few) < 2 {
				mark = "+" + mark
			}
			if mark == "+" && r.Intn(2) == 0 {
				entries = append(entries, names[i])
			}
			syms = append(syms, mark+names[i])
		}
		own := strings.Fields(strings.NewReplacer("+", "", "#", "").Replace(strings.Join(syms, " ")))
		for range r.Intn(5) {
			if len(own) > 0 && r.Intn(4) > 0 {
				rels = append(rels, own[r.Intn(len(own))])
			} else if outs := slowOuts(l); len(outs) > 0 && r.Intn(4) > 0 {
				rels = append(rels, outs[r.Intn(len(outs))])
			} else if r.Intn(3) == 0 {
				rels = append(rels, names[r.Intn(len(names))])
			}
		}
		slices.Reverse(entries)
		l = append(l, made(strings.Join(syms, " "), strings.Join(rels, " "), strings.Join(entries, " ")))
	}
	r.Shuffle(len(l), func(i, j int) { l[i], l[j] = l[j], l[i] })
	return l
}
