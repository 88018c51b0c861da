package irsem

import (
	"slices"

	"caponier/api"
)

// Where memory's words lie.
const (
	secretsAt = 1 << 20
	sharedAt  = 1 << 24
	wordBytes = 8
)

// memory is the words of all secret arrays, one array behind the other, and the shared ones.
type memory struct {
	secrets []uint64
	shared  []uint64
}

// newMemory has a world's words as they are at first, and is none of its lists.
func newMemory(w api.World) *memory {
	return &memory{secrets: slices.Concat(w.Secrets...), shared: slices.Clone(w.Shared)}
}

// word is that which begins at an address; nil, if none does.
func (m *memory) word(at uint64) *uint64 {
	for _, x := range []struct {
		words []uint64
		from  uint64
	}{{m.secrets, secretsAt}, {m.shared, sharedAt}} {
		// What lies below wraps to a number beyond all words.
		if n := at - x.from; n%wordBytes == 0 && n/wordBytes < uint64(len(x.words)) {
			return &x.words[n/wordBytes]
		}
	}
	return nil
}

// world is a source's world of these words, a list of its own for each array.
func (m *memory) world(p api.Prog) api.World {
	w := api.World{Shared: m.shared}
	words := m.secrets
	for _, a := range p.Secrets {
		w.Secrets = append(w.Secrets, slices.Clone(words[:a.Len]))
		words = words[a.Len:]
	}
	return w
}

// arrayAddresses are those at which a source's secret arrays begin, by their names.
func arrayAddresses(p api.Prog) map[string]uint64 {
	m := map[string]uint64{}
	at := uint64(secretsAt)
	for _, a := range p.Secrets {
		m[a.Name] = at
		at += wordBytes * uint64(a.Len)
	}
	return m
}

// addressed are a call's arguments as routines take them: a pointer is the address of its first shared word.
func addressed(f api.Func, args []uint64) []uint64 {
	l := slices.Clone(args)
	for i, x := range f.Params {
		if x.Kind == api.Pointer {
			l[i] = sharedAt + wordBytes*args[i]
		}
	}
	return l
}
