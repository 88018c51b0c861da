package syms_test

import (
	"fmt"
	"math"
	"math/rand"
	"slices"
	"strconv"
	"strings"
	"testing"

	"caponier/api"
	"caponier/obj"
	"caponier/syms"
)

const longest = "abcdefghijklmnopqrstuv_9" // 24 characters

// short is something told in few characters, since some lists are great.
func short(x any) string {
	s := fmt.Sprint(x)
	if len(s) > 400 {
		return s[:400] + ".."
	}
	return s
}

func wantCheck(t *testing.T, what string, l []api.Obj, name string, code api.Code) {
	t.Helper()
	for range 3 { // Maps are gone through in another order each time.
		if s, e := syms.Check(l); s != name || e != code {
			t.Fatalf("P7.1: %s: Check is %q, %d; want %q, %d", what, s, e, name, code)
		}
	}
	if s, e := slowCheck(l); s != name || e != code {
		t.Fatalf("%s: the test is wrong: %q, %d", what, s, e)
	}
	if e, u := syms.Entries(l), syms.Used(l); code != api.OK && (len(e) != 0 || len(u) != 0) {
		t.Errorf("P7.2: %s: a list that isn't OK has entries %s, and uses %s", what, short(e), short(u))
	}
}

// wantAsSlow wants each call to answer of a list what the slow way does.
func wantAsSlow(t *testing.T, what string, l []api.Obj) {
	t.Helper()
	name, code := slowCheck(l)
	wantCheck(t, what, l, name, code)
	for in := -2; in < len(l)+3; in++ {
		for _, s := range append(allNames(l), "", "nowhere", "+a", "a ") {
			want, is := slowFind(l, in, s)
			if d, ok := syms.Find(l, in, s); d != want || ok != is {
				t.Errorf("P7.2: %s: Find(%d, %q) is %v, %v; want %v, %v", what, in, s, d, ok, want, is)
			}
		}
	}
	if got, want := syms.Outs(l), slowOuts(l); !slices.Equal(got, want) {
		t.Errorf("P7.2: %s: Outs is %s; want %s", what, short(got), short(want))
	}
	if got, want := syms.Entries(l), slowEntries(l); !slices.Equal(got, want) {
		t.Errorf("P7.2: %s: Entries is %s; want %s", what, short(got), short(want))
	}
	if got, want := syms.Used(l), slowUsed(l); !slices.Equal(got, want) {
		t.Errorf("P7.2: %s: Used is %s; want %s", what, short(got), short(want))
	}
}

// listed is a list, what it is, and what Check answers.
type listed struct {
	what string
	l    []api.Obj
	name string
	code api.Code
}

// rightLists are lists that Check finds OK.
func rightLists() []listed {
	most := slices.Repeat([]api.Obj{made("a #b", "a b", "")}, 16)
	most[15] = made("+end", "end", "end")
	most[0] = made("", "end end", "")
	return []listed{
		{what: "no list"},
		{what: "no object", l: []api.Obj{}},
		{what: "an empty object", l: []api.Obj{{}}},
		{what: "16 empty objects", l: make([]api.Obj, 16)},
		{what: "an object alone", l: []api.Obj{made("+f g +#d #e", "e d g f", "f")}},
		{what: "names that nobody uses", l: []api.Obj{made("+f g", "", ""), made("+h g", "", "")}},
		{what: "an object without names, that uses another's", l: []api.Obj{made("", "f f d", ""), made("+f +#d", "", "f")}},
		{what: "objects without relocations", l: []api.Obj{made("+f", "", "f"), made("+g", "", "g")}},
		{what: "a name of its own, and another's", l: []api.Obj{made("f", "f", ""), made("+f", "f", "f"), made("#f", "f f f f", "")}},
		{what: "a name that is Out in one of them alone", l: []api.Obj{made("f", "f", ""), made("f", "f", ""), made("+f", "", ""), made("", "f", "")}},
		{what: "a name that stands last of all", l: []api.Obj{made("", "last", ""), {}, {}, made("a b c", "a", ""), made("d +last", "", "")}},
		{what: "a name that stands first of all", l: []api.Obj{made("+first", "", ""), {}, made("a", "a first", "")}},
		{what: "names that differ in their last character", l: []api.Obj{made("+ab +abc +abd", "abd", "ab"), made("+abe", "abc ab", "abe"), made("abc", "abe abc", "")}},
		{what: "names of 24 characters", l: []api.Obj{made("+"+longest, "abcdefghijklmnopqrstuv_8", longest), made("+#abcdefghijklmnopqrstuv_8", longest, "")}},
		{what: "16 objects", l: most},
		{what: "entries that fall", l: []api.Obj{made("+a +b +c", "", "c a b"), made("+d +e", "", "e d")}},
		{what: "they use each other's", l: []api.Obj{made("+a", "b c", "a"), made("+b", "c a", "b"), made("+c", "a b", "c")}},
	}
}

func TestListsThatAreRight(t *testing.T) {
	for _, x := range rightLists() {
		wantCheck(t, x.what, x.l, "", api.OK)
		wantAsSlow(t, x.what, x.l)
	}
}

// clashes are lists of which names clash.
func clashes() []listed {
	f := made("+f", "f", "f")
	late := slices.Repeat([]api.Obj{made("f g", "g f", "")}, 16)
	late[14], late[15] = made("+f g", "f", ""), made("+f g", "f", "f")
	lists := []listed{
		{what: "two objects with f Out", l: []api.Obj{f, f}, name: "f"},
		{what: "three objects with f Out", l: []api.Obj{f, f, f}, name: "f"},
		{what: "16 objects with f Out", l: slices.Repeat([]api.Obj{f}, 16), name: "f"},
		{what: "the last two of 16", l: late, name: "f"},
		{what: "the first and the last", l: []api.Obj{f, {}, made("f", "f", ""), f}, name: "f"},
		{what: "Out in the data and in the text", l: []api.Obj{made("+#f", "", ""), f}, name: "f"},
		{what: "Out in the data of both", l: []api.Obj{made("+#f", "", ""), made("a +#f", "", "")}, name: "f"},
		{what: "an entry, and a name that is Out", l: []api.Obj{made("+f", "", "f"), made("+f", "", "")}, name: "f"},
		{what: "two entries", l: []api.Obj{made("+f +g", "", "g"), made("+h +g", "", "h g")}, name: "g"},
		{what: "two names, the least in the last objects", l: []api.Obj{made("+z +a", "", ""), made("+z", "", ""), made("b +a", "", "")}, name: "a"},
		{what: "two names, the least first", l: []api.Obj{made("+a +z", "", ""), made("+a", "", ""), made("+z", "", "")}, name: "a"},
		{what: "two names, an entry's the greater", l: []api.Obj{made("+m +k", "", "m"), made("+m +k", "", "m")}, name: "k"},
		{what: "a lesser name that is Out in one alone", l: []api.Obj{made("+a +b", "", ""), made("a +b", "a", ""), made("a", "a b", "")}, name: "b"},
		{what: "a lesser name that is none's Out", l: []api.Obj{made("a +b", "a", ""), made("a +b", "a", "")}, name: "b"},
		{what: "of which one begins as the other", l: []api.Obj{made("+ab +abc +a", "", ""), made("+abc +ab", "", "")}, name: "ab"},
		{what: "that differ in their last character", l: []api.Obj{made("+abd +abc", "", ""), made("+abc +abd", "", "")}, name: "abc"},
		{what: "by their bytes", l: []api.Obj{made("+a +_ +a_ +a0 +z", "", ""), made("+z +a0 +a_ +_ +a", "", "")}, name: "_"},
		{what: "a digit is less than _", l: []api.Obj{made("+aa +a_ +a0 +a9", "", ""), made("+a9 +a0 +a_ +aa", "", "")}, name: "a0"},
		{what: "_ is less than a letter", l: []api.Obj{made("+aa +a_ +az", "", ""), made("+aa +az +a_", "", "")}, name: "a_"},
		{what: "ahead of a name that means nothing", l: []api.Obj{made("+f", "nowhere", ""), made("+f", "", "")}, name: "f"},
		{what: "ahead of a lesser one that means nothing", l: []api.Obj{made("+f", "", ""), made("+f", "a", "")}, name: "f"},
		{what: "longest", l: []api.Obj{made("+"+longest, "", ""), made("+"+longest, "", "")}, name: longest},
	}
	for i := range lists {
		lists[i].code = api.Twice
	}
	return lists
}

func TestClashes(t *testing.T) {
	for _, x := range clashes() {
		wantCheck(t, x.what, x.l, x.name, x.code)
		wantAsSlow(t, x.what, x.l)
	}
}

// undefined are lists of which names mean nothing.
func undefined() []listed {
	late := slices.Repeat([]api.Obj{made("f", "f", "")}, 16)
	late[15] = made("f", "f f f f f g", "")
	lists := []listed{
		{what: "an object alone", l: []api.Obj{made("", "f", "")}, name: "f"},
		{what: "in the first", l: []api.Obj{made("a", "a nowhere", ""), made("+b", "b", ""), made("c", "b c", "")}, name: "nowhere"},
		{what: "in the last", l: []api.Obj{made("a", "a", ""), made("+b", "b", ""), made("c", "b c nowhere", "")}, name: "nowhere"},
		{what: "in the last of 16", l: late, name: "g"},
		{what: "two names, the least in the last", l: []api.Obj{made("", "z", ""), made("", "b", "")}, name: "b"},
		{what: "two names, the least in the first", l: []api.Obj{made("", "b", ""), made("", "z", "")}, name: "b"},
		{what: "two names in one object", l: []api.Obj{made("", "y x z", "")}, name: "x"},
		{what: "a name that is another's, but not Out", l: []api.Obj{made("", "f", ""), made("f", "f", "")}, name: "f"},
		{what: "a name that is several others', but not Out", l: []api.Obj{made("f", "", ""), made("#f", "", ""), made("g", "g f", ""), made("f", "", "")}, name: "f"},
		{what: "a name that is another's data, but not Out", l: []api.Obj{made("#d", "d", ""), made("", "d", "")}, name: "d"},
		{what: "it is another's own, and a lesser one is Out", l: []api.Obj{made("+a b", "a b", ""), made("", "a b", "")}, name: "b"},
		{what: "another begins so", l: []api.Obj{made("+abc +abd", "ab", ""), made("+abcd", "", "")}, name: "ab"},
		{what: "it begins as another", l: []api.Obj{made("+ab", "abc", ""), made("+abd", "", "")}, name: "abc"},
		{what: "the least by its bytes", l: []api.Obj{made("", "aa a_ a0 a9", "")}, name: "a0"},
		{what: "all alike but the last character", l: []api.Obj{made("+"+longest, longest, ""), made("", "abcdefghijklmnopqrstuv_8", "")}, name: "abcdefghijklmnopqrstuv_8"},
		{what: "many times", l: slices.Repeat([]api.Obj{made("", "q q q q q", "")}, 16), name: "q"},
		{what: "beside entries", l: []api.Obj{made("+f", "", "f"), made("+g", "h", "g")}, name: "h"},
	}
	for i := range lists {
		lists[i].code = api.Undefined
	}
	return lists
}

func TestNamesThatMeanNothing(t *testing.T) {
	for _, x := range undefined() {
		wantCheck(t, x.what, x.l, x.name, x.code)
		wantAsSlow(t, x.what, x.l)
	}
}

// TestEachKindOfRelocation: of each kind alone, a name that is its own, another's Out, another's own, and nobody's.
func TestEachKindOfRelocation(t *testing.T) {
	for kind, w := range words() {
		for _, name := range []string{"own", "d", "out", "out_d", "other", "nobody"} {
			user := made("own #d", "", "")
			user.Text = []uint32{w}
			user.Rels = []api.Rel{{Kind: kind, Name: name}}
			l := []api.Obj{user, made("other +out +#out_d", "", "")}
			what := "a relocation of the kind " + strconv.Itoa(kind) + " by " + name
			wantAsSlow(t, what, l)
			if s, e := syms.Check(l); (e == api.Undefined) != (name == "other" || name == "nobody") || e != api.OK && s != name {
				t.Errorf("P7.1: %s: %q, %d", what, s, e)
			}
		}
	}
}

// wrongObjects are objects that may not be.
func wrongObjects() []api.Obj {
	twice := made("f", "", "")
	twice.Syms = append(twice.Syms, twice.Syms[0])
	return []api.Obj{
		{Text: []uint32{0}},
		made("F", "", ""),
		made("f f", "f", ""),
		twice,
		made("", "0f", ""),
		made("f", "", "f"),
		made("+#f", "", "f"),
		made("+f", "", "f f"),
		made("", "", "f"),
		{Data: make([]uint64, api.MaxData+1)},
		{Syms: []api.Sym{{Name: "f", Off: 4}}},
		{Rels: []api.Rel{{Name: "f"}}},
		made(longest+"a", "", ""),
	}
}

func TestListsThatMayNotBe(t *testing.T) {
	for i, o := range wrongObjects() {
		if obj.May(o) {
			t.Fatalf("object %d: the test is wrong", i)
		}
		for n := 1; n <= 16; n++ {
			for at := range n {
				l := slices.Repeat([]api.Obj{made("a", "a", "")}, n)
				l[at] = o
				wantCheck(t, "object "+strconv.Itoa(at)+" of "+strconv.Itoa(n), l, "", api.Arg)
			}
		}
		// It goes ahead of a name that clashes, and of one that means nothing.
		for _, other := range []api.Obj{made("+f", "", ""), made("", "nowhere", "")} {
			for at := range 3 {
				l := []api.Obj{other, other}
				wantCheck(t, "beside others", slices.Insert(l, at, o), "", api.Arg)
			}
		}
	}
	for _, n := range []int{17, 18, 32, 256, 257, 100000} {
		wantCheck(t, strconv.Itoa(n)+" objects", make([]api.Obj, n), "", api.Arg)
	}
	wantCheck(t, "17 objects that clash", slices.Repeat([]api.Obj{made("+f", "f", "")}, 17), "", api.Arg)
	wantCheck(t, "17 objects of names that mean nothing", slices.Repeat([]api.Obj{made("", "f", "")}, 17), "", api.Arg)
	wantCheck(t, "17 objects, right but for that", slices.Repeat([]api.Obj{made("f", "f", "")}, 17), "", api.Arg)
	wantCheck(t, "16 of them", slices.Repeat([]api.Obj{made("f", "f", "")}, 16), "", api.OK)
}

// threeObjects have names that are one's own, another's, both, and data.
func threeObjects() []api.Obj {
	return []api.Obj{
		made("local +main both #d", "local help both d d shared", "main"),
		made("+help local +both +#shared", "help main local both both", "both help"),
		made("x +tail y", "main help both shared tail", "tail"),
	}
}

func TestFind(t *testing.T) {
	l := threeObjects()
	for _, x := range []struct {
		in       int
		name     string
		obj, sym int
	}{
		{0, "local", 0, 0}, {0, "main", 0, 1}, {0, "both", 0, 2}, {0, "d", 0, 3}, {0, "help", 1, 0}, {0, "shared", 1, 3}, {0, "tail", 2, 1},
		{1, "local", 1, 1}, {1, "main", 0, 1}, {1, "both", 1, 2}, {1, "help", 1, 0}, {1, "shared", 1, 3}, {1, "tail", 2, 1},
		{2, "main", 0, 1}, {2, "both", 1, 2}, {2, "help", 1, 0}, {2, "shared", 1, 3}, {2, "tail", 2, 1}, {2, "x", 2, 0}, {2, "y", 2, 2},
	} {
		if d, ok := syms.Find(l, x.in, x.name); !ok || d != (api.Def{Obj: x.obj, Sym: x.sym}) {
			t.Errorf("P7.2: Find(%d, %q) is %v, %v; want %d, %d", x.in, x.name, d, ok, x.obj, x.sym)
		}
	}
	for _, x := range []struct {
		in   int
		name string
	}{
		{0, "x"}, {0, "nowhere"}, {0, ""}, {0, "loca"}, {0, "locals"}, {0, "Main"}, {0, "mai\x00"}, {1, "d"}, {1, "y"}, {2, "d"}, {2, "local"},
		{-1, "main"}, {-1, "local"}, {-2, "help"}, {3, "main"}, {3, "x"}, {4, "tail"}, {math.MinInt, "main"}, {math.MaxInt, "main"}, {1 << 32, "main"}, {-1 << 32, "main"}, {1<<32 + 1, "help"},
	} {
		if d, ok := syms.Find(l, x.in, x.name); ok || d != (api.Def{}) {
			t.Errorf("P7.2: Find(%d, %q) is %v, %v; there is none", x.in, x.name, d, ok)
		}
	}
	for _, in := range []int{-1, 0, 1} {
		if d, ok := syms.Find(nil, in, "f"); ok || d != (api.Def{}) {
			t.Errorf("P7.2: Find in no object, %d, is %v, %v", in, d, ok)
		}
	}
	wantAsSlow(t, "three objects", l)
}

// TestFindTheFirst: of names that clash, and in lists that may not be, it is its own, and else the first that is Out.
func TestFindTheFirst(t *testing.T) {
	l := []api.Obj{made("f", "f", ""), made("a +f", "f", ""), made("+f", "f", ""), made("", "f", ""), made("b c +f", "f", "")}
	for in, want := range []api.Def{{Obj: 0, Sym: 0}, {Obj: 1, Sym: 1}, {Obj: 2, Sym: 0}, {Obj: 1, Sym: 1}, {Obj: 4, Sym: 2}} {
		if d, ok := syms.Find(l, in, "f"); !ok || d != want {
			t.Errorf("P7.2: what clashes, in %d, is %v, %v; want %v", in, d, ok, want)
		}
	}
	for _, x := range slices.Concat(clashes(), undefined()) {
		wantAsSlow(t, x.what, x.l)
	}
	for i, o := range wrongObjects() {
		wantAsSlow(t, "wrong object "+strconv.Itoa(i), []api.Obj{made("", "f", ""), o, made("+f", "", "")})
	}
	// An object's own is the first of its own; what others mean by it, the first that is Out.
	wantAsSlow(t, "Syms of one name", []api.Obj{made("", "", ""), made("a f +f +f", "", ""), made("+f f", "", "")})
	many := slices.Repeat([]api.Obj{made("a", "a", "")}, 40)
	many[30] = made("b +f", "a f", "f")
	wantAsSlow(t, "40 objects", many)
}

func TestOuts(t *testing.T) {
	for _, x := range []struct {
		l    []api.Obj
		want string
	}{
		{nil, ""},
		{make([]api.Obj, 16), ""},
		{[]api.Obj{made("a #b", "a b", "")}, ""},
		{threeObjects(), "both help main shared tail"},
		{[]api.Obj{made("+z +a +_ +a0 +a_ +aa +a +#m", "", "")}, "_ a a0 a_ aa m z"},
		{[]api.Obj{made("+f +f +f", "", ""), made("+f", "", "")}, "f"},
		{[]api.Obj{made("+f", "", ""), made("f", "", ""), made("#f g", "", ""), made("+e", "", "")}, "e f"},
		{[]api.Obj{made("+f", "nowhere g", ""), made("+f +e", "", "f e")}, "e f"},
		{slices.Repeat([]api.Obj{made("+f g", "", "")}, 20), "f"},
	} {
		for range 3 {
			if got := syms.Outs(x.l); !slices.Equal(got, strings.Fields(x.want)) {
				t.Errorf("P7.2: Outs is %v; want %s", got, x.want)
			}
		}
	}
}

func TestEntries(t *testing.T) {
	if got, want := syms.Entries(threeObjects()), []api.Def{{Obj: 0, Sym: 1}, {Obj: 1, Sym: 2}, {Obj: 1, Sym: 0}, {Obj: 2, Sym: 1}}; !slices.Equal(got, want) {
		t.Errorf("P7.2: Entries is %v; want %v", got, want)
	}
	l := []api.Obj{{}, made("a +b +c +d", "", "d b c"), made("+e f", "f", ""), made("g a +h", "", "h"), {}}
	if got, want := syms.Entries(l), []api.Def{{Obj: 1, Sym: 3}, {Obj: 1, Sym: 1}, {Obj: 1, Sym: 2}, {Obj: 3, Sym: 2}}; !slices.Equal(got, want) {
		t.Errorf("P7.2: Entries is %v; want %v", got, want)
	}
	for _, l := range [][]api.Obj{nil, {}, {{}}, make([]api.Obj, 16), {made("+f", "f", "")}, make([]api.Obj, 17)} {
		if got := syms.Entries(l); len(got) != 0 {
			t.Errorf("P7.2: Entries of none is %v", got)
		}
	}
}

func TestUsed(t *testing.T) {
	want := []api.Def{{Obj: 0, Sym: 0}, {Obj: 0, Sym: 1}, {Obj: 0, Sym: 2}, {Obj: 0, Sym: 3}, {Obj: 1, Sym: 0}, {Obj: 1, Sym: 1}, {Obj: 1, Sym: 2}, {Obj: 1, Sym: 3}, {Obj: 2, Sym: 1}}
	for range 5 {
		if got := syms.Used(threeObjects()); !slices.Equal(got, want) {
			t.Errorf("P7.2: Used is %v; want %v", got, want)
		}
	}
	l := []api.Obj{made("", "z y a z", ""), made("a +z b", "b z b", ""), made("+y +unused z +a", "y z", "unused")}
	want = []api.Def{{Obj: 1, Sym: 1}, {Obj: 1, Sym: 2}, {Obj: 2, Sym: 0}, {Obj: 2, Sym: 2}, {Obj: 2, Sym: 3}}
	if got := syms.Used(l); !slices.Equal(got, want) {
		t.Errorf("P7.2: Used is %v; want %v", got, want)
	}
	for _, l := range [][]api.Obj{nil, {}, {{}}, make([]api.Obj, 16), {made("+f +#g", "", "f")}, make([]api.Obj, 17)} {
		if got := syms.Used(l); len(got) != 0 {
			t.Errorf("P7.2: Used of none is %v", got)
		}
	}
}

// greatest is a list with as many of everything as may be: each object uses all of its names, and others'.
func greatest() []api.Obj {
	var l []api.Obj
	jump := words()[api.RelJump]
	for i := range 16 {
		o := api.Obj{Text: slices.Repeat([]uint32{jump}, api.MaxText), Data: make([]uint64, api.MaxData)}
		for j := range 256 {
			o.Syms = append(o.Syms, api.Sym{Name: "o" + strconv.Itoa(i) + "_" + strconv.Itoa(j), Off: 4 * j, Out: true})
		}
		for j := range 1024 {
			o.Rels = append(o.Rels, api.Rel{At: 4 * j, Kind: api.RelJump, Name: "o" + strconv.Itoa((i+j/256)%16) + "_" + strconv.Itoa(255-j%256)})
		}
		for j := range 64 {
			o.Entries = append(o.Entries, api.Entry{Name: o.Syms[255-j].Name})
		}
		l = append(l, o)
	}
	return l
}

func TestTheGreatestList(t *testing.T) {
	l := greatest()
	if s, e := syms.Check(l); s != "" || e != api.OK {
		t.Fatalf("P7.1: Check is %q, %d", s, e)
	}
	if got := syms.Outs(l); len(got) != 4096 || !slices.IsSorted(got) || got[0] != "o0_0" || got[4095] != "o9_99" {
		t.Errorf("P7.2: Outs is %s", short(got))
	}
	used, entries := syms.Used(l), syms.Entries(l)
	if len(used) != 4096 || len(entries) != 1024 {
		t.Fatalf("P7.2: %d used, %d entries", len(used), len(entries))
	}
	for i := range 4096 {
		if used[i] != (api.Def{Obj: i / 256, Sym: i % 256}) {
			t.Fatalf("P7.2: Used at %d is %v", i, used[i])
		}
	}
	for i := range 1024 {
		if entries[i] != (api.Def{Obj: i / 64, Sym: 255 - i%64}) {
			t.Fatalf("P7.2: Entries at %d is %v", i, entries[i])
		}
	}
	for i := range 4096 {
		name := "o" + strconv.Itoa(i/256) + "_" + strconv.Itoa(i%256)
		if d, ok := syms.Find(l, i%16, name); !ok || d != (api.Def{Obj: i / 256, Sym: i % 256}) {
			t.Fatalf("P7.2: Find(%d, %q) is %v, %v", i%16, name, d, ok)
		}
	}
	l[15].Rels[1023].Name = "o16_0"
	if s, e := syms.Check(l); s != "o16_0" || e != api.Undefined {
		t.Errorf("P7.1: Check is %q, %d; want o16_0, Undefined", s, e)
	}
	l[15].Syms[0].Name = "o14_255"
	if s, e := syms.Check(l); s != "o14_255" || e != api.Twice {
		t.Errorf("P7.1: Check is %q, %d; want o14_255, Twice", s, e)
	}
}

// orders are some orders of 0 to n-1, the other way round among them.
func orders(n int) [][]int {
	r := rand.New(rand.NewSource(int64(n)))
	var l [][]int
	for range 8 {
		l = append(l, r.Perm(n))
	}
	var back []int
	for i := range n {
		back = append(back, n-1-i)
	}
	return append(l, back)
}

// wantAnyOrder wants a list to mean the same in other orders of its objects.
func wantAnyOrder(t *testing.T, what string, l []api.Obj) {
	t.Helper()
	name, code := syms.Check(l)
	for _, order := range orders(len(l)) {
		var moved []api.Obj
		at := make([]int, len(l)) // where each object of l has come to
		for i, from := range order {
			moved = append(moved, l[from])
			at[from] = i
		}
		if s, e := syms.Check(moved); s != name || e != code {
			t.Fatalf("P7.3: %s: in the order %v Check is %q, %d; not %q, %d", what, order, s, e, name, code)
		}
		if !slices.Equal(syms.Outs(l), syms.Outs(moved)) {
			t.Errorf("P7.3: %s: in the order %v Outs is %v", what, order, syms.Outs(moved))
		}
		renumbered := func(d api.Def) api.Def { return api.Def{Obj: at[d.Obj], Sym: d.Sym} }
		if code != api.Twice && code != api.Arg {
			wantMeant(t, what, l, moved, renumbered)
		}
		wantSameDefs(t, what+": Used", syms.Used(l), syms.Used(moved), renumbered)
		wantSameDefs(t, what+": Entries", syms.Entries(l), syms.Entries(moved), renumbered)
	}
}

// wantMeant wants each name to mean the same Sym in a list and in the same list moved.
func wantMeant(t *testing.T, what string, l, moved []api.Obj, renumbered func(api.Def) api.Def) {
	t.Helper()
	for in := range l {
		for _, s := range append(allNames(l), "nowhere") {
			d, ok := syms.Find(l, in, s)
			e, is := syms.Find(moved, renumbered(api.Def{Obj: in}).Obj, s)
			if ok != is || ok && e != renumbered(d) {
				t.Errorf("P7.3: %s: %q in %d means %v, %v; moved %v, %v", what, s, in, d, ok, e, is)
			}
		}
	}
}

// wantSameDefs wants two lists of Defs to be alike, renumbered, but for their order.
func wantSameDefs(t *testing.T, what string, a, b []api.Def, renumbered func(api.Def) api.Def) {
	t.Helper()
	if len(a) != len(b) {
		t.Errorf("P7.3: %s: %v, and moved %v", what, a, b)
		return
	}
	for _, d := range a {
		if !slices.Contains(b, renumbered(d)) {
			t.Errorf("P7.3: %s: %v, and moved %v", what, a, b)
		}
	}
}

func TestOtherOrders(t *testing.T) {
	wantAnyOrder(t, "three objects", threeObjects())
	for _, x := range slices.Concat(rightLists(), clashes(), undefined()) {
		wantAnyOrder(t, x.what, x.l)
	}
}

func TestListsAtRandom(t *testing.T) {
	r := rand.New(rand.NewSource(7))
	codes := map[api.Code]int{}
	for i := range 3000 {
		l := someList(r)
		_, code := slowCheck(l)
		codes[code]++
		wantAsSlow(t, "list "+strconv.Itoa(i), l)
		if i%5 == 0 {
			wantAnyOrder(t, "list "+strconv.Itoa(i), l)
		}
		if t.Failed() {
			t.Fatalf("the list is %+v", l)
		}
	}
	for _, c := range []api.Code{api.OK, api.Twice, api.Undefined} {
		if codes[c] < 300 {
			t.Errorf("of the code %d there are %d lists: the test is wrong", c, codes[c])
		}
	}
	if codes[api.Arg] > 0 {
		t.Errorf("%d lists may not be: the test is wrong", codes[api.Arg])
	}
}

// roomy are the three objects, their lists with spare room that holds something.
func roomy() []api.Obj {
	l := append(threeObjects(), made("+spare", "spare", "spare"))
	for i, o := range l {
		o.Text = append(o.Text, 77)[:len(o.Text)]
		o.Data = append(o.Data, 77)[:len(o.Data)]
		o.Syms = append(o.Syms, api.Sym{Name: "spare"})[:len(o.Syms)]
		o.Rels = append(o.Rels, api.Rel{Name: "spare"})[:len(o.Rels)]
		o.Entries = append(o.Entries, api.Entry{Name: "spare"})[:len(o.Entries)]
		l[i] = o
	}
	return l[:3]
}

// wholeOf are objects with the spare room of their list, and of theirs.
func wholeOf(l []api.Obj) []api.Obj {
	var all []api.Obj
	for _, o := range l[:len(l)+1] {
		o.Text, o.Data, o.Syms, o.Rels, o.Entries = o.Text[:len(o.Text)+1], o.Data[:len(o.Data)+1], o.Syms[:len(o.Syms)+1], o.Rels[:len(o.Rels)+1], o.Entries[:len(o.Entries)+1]
		all = append(all, o)
	}
	return all
}

// TestListsAreNeitherChangedNorKept: rule 3 of the document.
func TestListsAreNeitherChangedNorKept(t *testing.T) {
	l := roomy()
	syms.Check(l)
	syms.Find(l, 1, "main")
	outs, entries, used := syms.Outs(l), syms.Entries(l), syms.Used(l)
	if !slices.EqualFunc(wholeOf(l), wholeOf(roomy()), obj.Same) {
		t.Error("P7.2: a list that was handed in is changed")
	}
	for _, o := range wholeOf(l) {
		clear(o.Syms)
		clear(o.Rels)
		clear(o.Entries)
	}
	clear(l)
	clear(syms.Outs(threeObjects()))
	clear(syms.Entries(threeObjects()))
	clear(syms.Used(threeObjects()))
	if !slices.Equal(outs, slowOuts(threeObjects())) || !slices.Equal(entries, slowEntries(threeObjects())) || !slices.Equal(used, slowUsed(threeObjects())) {
		t.Errorf("P7.2: a list that was handed in is kept: %v, %v, %v", outs, entries, used)
	}
}

// TestCallsHangOnNothingElse: a wrong call ahead of it changes no later one.
func TestCallsHangOnNothingElse(t *testing.T) {
	for _, x := range slices.Concat(clashes(), undefined(), rightLists()) {
		wantAsSlow(t, x.what, x.l)
		wantAsSlow(t, "behind "+x.what, threeObjects())
	}
}
