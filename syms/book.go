package syms

import "caponier/api"

// known is a name in an object: among all of its Syms, or among those alone that are Out.
type known struct {
	name string
	in   int
	out  bool
}

// use is a name that relocations of an object have.
type use struct {
	name string
	in   int
}

// book is where the names of a list of objects are written down: each one's first Sym.
type book struct {
	objects int
	first   map[known]int
}

// every is for a book of all names.
func every(string) bool {
	return true
}

// write writes down those names that are wanted.
func write(l []api.Obj, wanted func(string) bool) book {
	b := book{objects: len(l), first: map[known]int{}}
	for i, o := range l {
		for j, s := range o.Syms {
			if !wanted(s.Name) {
				continue
			}
			b.put(known{name: s.Name, in: i}, j)
			if s.Out {
				b.put(known{name: s.Name, in: i, out: true}, j)
			}
		}
	}
	return b
}

// put writes down a Sym, where none was written ahead of it.
func (b book) put(k known, sym int) {
	if _, ok := b.first[k]; !ok {
		b.first[k] = sym
	}
}

// meaning is what a name means in an object: its own goes ahead of what is Out, so that the latter is another one's.
func (b book) meaning(in int, name string) (api.Def, bool) {
	if sym, ok := b.first[known{name: name, in: in}]; ok {
		return api.Def{Obj: in, Sym: sym}, true
	}
	for i := range b.objects {
		if sym, ok := b.first[known{name: name, in: i, out: true}]; ok {
			return api.Def{Obj: i, Sym: sym}, true
		}
	}
	return api.Def{}, false
}

// clashing are the names that are Out in two objects, in no order. Entries have no clashes beside these, since an entry's name is Out in its object.
func (b book) clashing() []string {
	var names []string
looking:
	for k := range b.first {
		if !k.out {
			continue
		}
		for ahead := range k.in {
			if _, ok := b.first[known{name: k.name, in: ahead, out: true}]; ok {
				names = append(names, k.name)
				continue looking
			}
		}
	}
	return names
}

// meaningless are the names that are used where they mean nothing, in no order.
func (b book) meaningless(used map[use]int) []string {
	var names []string
	for u := range used {
		if _, ok := b.meaning(u.in, u.name); !ok {
			names = append(names, u.name)
		}
	}
	return names
}

// uses are the names that relocations have, object by object, each with how many have it.
func uses(l []api.Obj) map[use]int {
	used := map[use]int{}
	for i, o := range l {
		for _, r := range o.Rels {
			used[use{name: r.Name, in: i}]++
		}
	}
	return used
}
