package obj

import (
	"caponier/api"
	"caponier/bits"
)

// beginning is how the bytes of each object begin.
const beginning = "OBJ1"

// lists is how many lists an object has, and so how many counts stand behind its beginning.
const lists = 5

// How many bytes each number has.
const (
	countBytes  = 2
	offsetBytes = 4
	smallBytes  = 1 // of a name's length, a Sym's marks, a kind, parameters
	addBytes    = 8
)

// A Sym's marks, which come together in one byte.
const (
	markInData = 1
	markOut    = 2
)

// lack is what leaves by a panic where bytes lack something: the code that tells of it.
type lack api.Code

// want leaves by a panic, if the bytes aren't as they must be.
func want(is bool) {
	if !is {
		panic(lack(api.Malformed))
	}
}

// writer gathers an object's bytes.
type writer struct {
	done []byte
}

// object writes all of an object that may be.
func (w *writer) object(o api.Obj) {
	w.done = append(w.done, beginning...)
	for _, n := range [...]int{len(o.Text), len(o.Data), len(o.Syms), len(o.Rels), len(o.Entries)} {
		w.number(uint64(n), countBytes)
	}
	for _, x := range o.Text {
		w.number(uint64(x), textUnit)
	}
	for _, x := range o.Data {
		w.number(x, dataUnit)
	}
	for _, s := range o.Syms {
		w.sym(s)
	}
	for _, r := range o.Rels {
		w.rel(r)
	}
	for _, e := range o.Entries {
		w.entry(e)
	}
}

// number writes the lowest bytes of a number.
func (w *writer) number(v uint64, n int) {
	w.done = append(w.done, bits.Bytes(v, n)...)
}

// name writes a name.
func (w *writer) name(s string) {
	w.number(uint64(len(s)), smallBytes)
	w.done = append(w.done, s...)
}

// sym writes a Sym.
func (w *writer) sym(s api.Sym) {
	marks := uint64(0)
	if s.InData {
		marks |= markInData
	}
	if s.Out {
		marks |= markOut
	}
	w.name(s.Name)
	w.number(marks, smallBytes)
	w.number(uint64(s.Off), offsetBytes)
}

// rel writes a relocation.
func (w *writer) rel(r api.Rel) {
	w.number(uint64(r.At), offsetBytes)
	w.number(uint64(r.Kind), smallBytes)
	w.name(r.Name)
	w.number(uint64(r.Add), addBytes)
}

// entry writes an entry.
func (w *writer) entry(e api.Entry) {
	w.name(e.Name)
	w.number(uint64(len(e.Params)), smallBytes)
	for _, n := range e.Params {
		w.number(uint64(n), smallBytes)
	}
}

// reader reads an object's bytes; left are those that it hasn't read yet.
type reader struct {
	left []byte
}

// readAll reads the object that bytes are, to their end; whether it may be isn't looked at.
func readAll(b []byte) api.Obj {
	r := &reader{left: b}
	o := r.object()
	want(len(r.left) == 0)
	return o
}

// list reads so many elements, one behind the other.
func list[T any](n int, read func() T) []T {
	var l []T
	for range n {
		l = append(l, read())
	}
	return l
}

// object reads an object.
func (r *reader) object() api.Obj {
	want(string(r.take(len(beginning))) == beginning)
	counts := list(lists, r.count)
	var o api.Obj
	o.Text = list(counts[0], r.instruction)
	o.Data = list(counts[1], r.word)
	o.Syms = list(counts[2], r.sym)
	o.Rels = list(counts[3], r.rel)
	o.Entries = list(counts[4], r.entry)
	return o
}

// take takes so many bytes from those that are left.
func (r *reader) take(n int) []byte {
	want(n <= len(r.left))
	b := r.left[:n]
	r.left = r.left[n:]
	return b
}

// number reads a number of so many bytes.
func (r *reader) number(n int) uint64 {
	v, _ := bits.Word(r.take(n))
	return v
}

// count reads how many elements a list has.
func (r *reader) count() int {
	return int(r.number(countBytes))
}

// small reads a number of one byte.
func (r *reader) small() int {
	return int(r.number(smallBytes))
}

// offset reads how many bytes something is from a beginning.
func (r *reader) offset() int {
	return int(r.number(offsetBytes))
}

// instruction reads a word of text.
func (r *reader) instruction() uint32 {
	return uint32(r.number(textUnit))
}

// word reads a word of data.
func (r *reader) word() uint64 {
	return r.number(dataUnit)
}

// name reads a name.
func (r *reader) name() string {
	return string(r.take(r.small()))
}

// sym reads a Sym.
func (r *reader) sym() api.Sym {
	s := api.Sym{Name: r.name()}
	marks := r.small()
	want(marks <= markInData|markOut)
	s.InData = marks&markInData != 0
	s.Out = marks&markOut != 0
	s.Off = r.offset()
	return s
}

// rel reads a relocation.
func (r *reader) rel() api.Rel {
	var x api.Rel
	x.At = r.offset()
	x.Kind = r.small()
	x.Name = r.name()
	x.Add = int64(r.number(addBytes))
	return x
}

// entry reads an entry.
func (r *reader) entry() api.Entry {
	e := api.Entry{Name: r.name()}
	e.Params = list(r.small(), r.small)
	return e
}
