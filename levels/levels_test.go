package levels

import (
	"fmt"
	"math"
	"slices"
	"strings"
	"testing"

	"tithebarn/api"
	"tithebarn/ikey"
)

// heldMeta holds Check of a meta against the model, alone and in a version, and, if there is an error that is asked for, against that.
func heldMeta(t *testing.T, m Meta, want ...api.Errno) {
	t.Helper()
	model := api.ErrVersion
	if modelMeta(m) {
		model = api.OK
	}
	if e := m.Check(); e != model || len(want) > 0 && e != want[0] {
		t.Errorf("Check of %v: %d, not %d %v", m, e, model, want)
	}
	for level := range api.MaxLevels {
		var v Version
		v.Levels[level] = metas(m)
		if e := v.Check(); e != model {
			t.Errorf("Check of %v in level %d: %d, not %d", m, level, e, model)
		}
	}
}

// heldVersion holds Check of a version against the model, and, if there is an error that is asked for, against that.
func heldVersion(t *testing.T, v Version, want ...api.Errno) {
	t.Helper()
	model := api.ErrVersion
	if modelVersion(v) {
		model = api.OK
	}
	if e := v.Check(); e != model || len(want) > 0 && e != want[0] {
		t.Errorf("Check of %v: %d, not %d %v", v, e, model, want)
	}
}

func TestExamples(t *testing.T) { // P15.1, P15.2
	v := heldApply(t, Version{}, edit(nil, place(1, meta(1, "a", "c")), place(1, meta(2, "f", "h"))), api.OK)
	between := heldApply(t, v, edit(nil, place(1, meta(3, "d", "e"))), api.OK)
	wantLevel(t, between, 1, 1, 3, 2)
	heldApply(t, v, edit(nil, place(1, meta(3, "c", "d"))), api.ErrVersion)
	if l := v.At(1, "g"); !slices.Equal(zonesOf(l), []int{2}) {
		t.Errorf("At(1, g): %v", l)
	}
}

func TestCheckOfNumbers(t *testing.T) { // P15.1: Zone and Len
	for _, c := range []struct {
		zone, n int
		want    api.Errno
	}{
		{0, 1, api.OK}, {63, 1, api.OK}, {0, 1 << 16, api.OK}, {63, 1 << 16, api.OK}, {31, 1000, api.OK},
		{-1, 1, api.ErrVersion}, {64, 1, api.ErrVersion}, {0, 0, api.ErrVersion}, {0, 1<<16 + 1, api.ErrVersion}, {0, -1, api.ErrVersion},
		{-1, 0, api.ErrVersion},
	} {
		m := meta(c.zone, "a", "c")
		m.Len = c.n
		heldMeta(t, m, c.want)
	}
	for _, n := range farNumbers() {
		m := meta(5, "a", "c")
		m.Zone = n
		heldMeta(t, m, api.ErrVersion)
		m = meta(5, "a", "c")
		m.Len = n
		heldMeta(t, m, api.ErrVersion)
	}
	heldMeta(t, Meta{}, api.ErrVersion)
}

// rightKeys: keys at the edges of what is right.
func rightKeys() []ikey.Key {
	var l []ikey.Key
	for _, user := range []string{"\x00", "a", "a\x00", "ab", "b", "\xff", strings.Repeat("a", 64)} {
		for _, seq := range []int{0, 1, 1<<40 - 1, 1 << 40} {
			for kind := 1; kind <= 3; kind++ {
				l = append(l, key(user, seq, kind))
			}
		}
	}
	return l
}

// wrongKeys: keys that are not right, each for one reason or more.
func wrongKeys() []ikey.Key {
	l := []ikey.Key{{}, key("", 1, 1), key(strings.Repeat("b", 65), 1, 1), key(strings.Repeat("b", 5000), 1, 1), key("b", -1, 1), key("b", 1<<40+1, 1), key("b", 1, 0), key("b", 1, 4)}
	for _, n := range farNumbers() {
		if n < 0 || n > 1<<40 {
			l = append(l, key("b", n, 1))
		}
		l = append(l, key("b", 1, n))
	}
	return l
}

func TestCheckOfKeys(t *testing.T) { // P15.1: Small and Large
	for _, small := range rightKeys() {
		for _, large := range rightKeys() {
			heldMeta(t, Meta{Zone: 1, Len: 1, Small: small, Large: large})
		}
		heldMeta(t, Meta{Zone: 1, Len: 1, Small: small, Large: small}, api.OK)
		heldMeta(t, Meta{Zone: 1, Len: 1 << 16, Small: small, Large: small}, api.OK)
	}
	for _, wrong := range wrongKeys() {
		heldMeta(t, Meta{Zone: 1, Len: 2, Small: wrong, Large: key("c", 1, 1)}, api.ErrVersion)
		heldMeta(t, Meta{Zone: 1, Len: 2, Small: key("a", 1, 1), Large: wrong}, api.ErrVersion)
		heldMeta(t, Meta{Zone: 1, Len: 2, Small: wrong, Large: wrong}, api.ErrVersion)
	}
}

func TestCheckOfKeysOfOneUser(t *testing.T) { // P15.1: the newer key stands ahead, then the one of the greater kind
	for _, c := range []struct {
		small, large ikey.Key
		want         api.Errno
	}{
		{key("a", 5, 1), key("a", 4, 3), api.OK},
		{key("a", 4, 3), key("a", 5, 1), api.ErrVersion},
		{key("a", 5, 3), key("a", 5, 1), api.OK},
		{key("a", 5, 1), key("a", 5, 3), api.ErrVersion},
		{key("a", 1, 1), key("b", 9, 3), api.OK},
		{key("b", 9, 3), key("a", 1, 1), api.ErrVersion},
		{key("a", 1, 1), key("a\x00", 9, 3), api.OK},
		{key("a\x00", 9, 3), key("a", 1, 1), api.ErrVersion},
	} {
		heldMeta(t, Meta{Zone: 1, Len: 2, Small: c.small, Large: c.large}, c.want)
	}
}

func TestCheckOfRefs(t *testing.T) { // P15.1
	for _, c := range []struct {
		refs []Ref
		want api.Errno
	}{
		{nil, api.OK},
		{[]Ref{}, api.OK},
		{[]Ref{{0, 1}}, api.OK},
		{[]Ref{{63, 1 << 30}}, api.OK},
		{[]Ref{{1, 1}}, api.OK}, // its own zone
		{[]Ref{{0, 1}, {63, 1}}, api.OK},
		{[]Ref{{0, 9}, {1, 8}, {2, 7}, {40, 1 << 30}, {63, 5}}, api.OK},
		{[]Ref{{1, 5}, {0, 6}}, api.ErrVersion},
		{[]Ref{{0, 5}, {2, 6}, {1, 7}}, api.ErrVersion},
		{[]Ref{{1, 5}, {0, 6}, {2, 7}}, api.ErrVersion},
		{[]Ref{{2, 1}, {2, 1}}, api.ErrVersion},
		{[]Ref{{2, 1}, {2, 9}}, api.ErrVersion},
		{[]Ref{{1, 1}, {2, 1}, {2, 2}}, api.ErrVersion},
		{[]Ref{{1, 1}, {1, 1}, {2, 2}}, api.ErrVersion},
		{[]Ref{{1, 1}, {2, 1}, {1, 2}}, api.ErrVersion},
		{[]Ref{{-1, 1}}, api.ErrVersion},
		{[]Ref{{64, 1}}, api.ErrVersion},
		{[]Ref{{-1, 1}, {0, 1}}, api.ErrVersion},
		{[]Ref{{63, 1}, {64, 1}}, api.ErrVersion},
		{[]Ref{{0, 0}}, api.ErrVersion},
		{[]Ref{{0, 1<<30 + 1}}, api.ErrVersion},
		{[]Ref{{0, 1}, {1, 0}}, api.ErrVersion},
		{[]Ref{{0, 0}, {1, 1}}, api.ErrVersion},
		{[]Ref{{0, 1}, {1, 0}, {2, 1}}, api.ErrVersion},
		{[]Ref{{0, 1}, {1, 1<<30 + 1}, {2, 1}}, api.ErrVersion},
		{[]Ref{{}}, api.ErrVersion},
	} {
		heldMeta(t, meta(1, "a", "c", c.refs...), c.want)
	}
	for _, n := range farNumbers() {
		for _, refs := range [][]Ref{{{n, 1}}, {{5, n}}, {{n, 1}, {5, 1}}, {{5, 1}, {n, 1}}, {{1, 1}, {5, n}}} {
			heldMeta(t, meta(1, "a", "c", refs...), api.ErrVersion)
		}
	}
}

func TestCheckOfAllRefs(t *testing.T) { // P15.1: each three of several
	parts := []Ref{{-1, 1}, {0, 0}, {0, 1}, {1, 1}, {2, 1 << 30}, {2, 1<<30 + 1}, {63, 1}, {64, 1}}
	for _, a := range parts {
		for _, b := range parts {
			heldMeta(t, meta(1, "a", "c", a, b))
			for _, c := range parts {
				heldMeta(t, meta(1, "a", "c", a, b, c))
			}
		}
	}
}

func TestCheckOfVersions(t *testing.T) { // P15.1
	eachSample(t, func(t *testing.T, v Version) { heldVersion(t, v, api.OK) })
	for level := range api.MaxLevels {
		deep := api.ErrVersion
		if level == 0 {
			deep = api.OK
		}
		for _, c := range []struct {
			name string
			l    []Meta
			want api.Errno
		}{
			{"rise", metas(meta(1, "a", "c"), meta(2, "d", "f")), api.OK},
			{"rise, next to each other", metas(meta(1, "a", "c"), meta(2, "c\x00", "f")), api.OK},
			{"rise, their zones fall", metas(meta(2, "a", "c"), meta(1, "d", "f"), meta(0, "g", "h")), api.OK},
			{"of one user each", metas(meta(1, "a", "a"), meta(2, "b", "b"), meta(3, "c", "c")), api.OK},
			{"the other way round", metas(meta(1, "d", "f"), meta(2, "a", "c")), deep},
			{"touch at one key", metas(meta(1, "a", "c"), meta(2, "c", "f")), deep},
			{"touch at one key, behind others", metas(meta(3, "A", "B"), meta(1, "a", "c"), meta(2, "c", "f")), deep},
			{"touch at one key, ahead of others", metas(meta(1, "a", "c"), meta(2, "c", "f"), meta(3, "g", "h")), deep},
			{"overlap", metas(meta(1, "a", "d"), meta(2, "c", "f")), deep},
			{"one within the other", metas(meta(1, "a", "z"), meta(2, "c", "d")), deep},
			{"the same", metas(meta(1, "a", "c"), meta(2, "a", "c")), deep},
			{"of one user", metas(meta(1, "a", "a"), meta(2, "a", "a")), deep},
			{"one zone twice", metas(meta(1, "a", "c"), meta(1, "d", "f")), api.ErrVersion},
			{"one zone twice, with one between", metas(meta(1, "a", "c"), meta(2, "d", "f"), meta(1, "g", "h")), api.ErrVersion},
			{"one zone twice, all else the same", metas(meta(1, "a", "c"), meta(1, "a", "c")), api.ErrVersion},
			{"the last one wrong", metas(meta(1, "a", "c"), meta(64, "d", "f")), api.ErrVersion},
			{"the first one wrong", metas(meta(-1, "a", "c"), meta(2, "d", "f")), api.ErrVersion},
			{"the middle one wrong", metas(meta(1, "a", "c"), meta(2, "f", "d"), meta(3, "g", "h")), api.ErrVersion},
		} {
			t.Run(fmt.Sprintf("%s in level %d", c.name, level), func(t *testing.T) {
				var v Version
				v.Levels[level] = c.l
				heldVersion(t, v, c.want)
			})
		}
	}
}

func TestCheckOfOneUsersKeysInTwoTables(t *testing.T) { // P15.1: that the keys rise isn't enough
	first := Meta{Zone: 1, Len: 1, Small: key("a", 9, 1), Large: key("c", 9, 1)}
	second := Meta{Zone: 2, Len: 1, Small: key("c", 5, 1), Large: key("d", 5, 1)}
	for level := 1; level < api.MaxLevels; level++ {
		var v Version
		v.Levels[level] = metas(first, second)
		heldVersion(t, v, api.ErrVersion)
	}
}

func TestCheckOfZonesInTwoLevels(t *testing.T) { // P15.1
	for a := range api.MaxLevels {
		for b := range a {
			for _, z := range []int{0, 1, 31, 63} {
				var v Version
				v.Levels[a], v.Levels[b] = metas(meta(z, "a", "c")), metas(meta(z, "f", "h"))
				heldVersion(t, v, api.ErrVersion)
				v.Levels[b] = metas(meta((z+1)%64, "a", "c"))
				heldVersion(t, v, api.OK)
			}
		}
	}
}

func TestCheckOfAnyTwo(t *testing.T) { // P15.1: each two tables, in each two levels
	users := []string{"", "a", "a\x00", "b", "c"}
	var tables []Meta
	for _, small := range users {
		for _, large := range users {
			tables = append(tables, meta(1, small, large), meta(2, small, large))
		}
	}
	for _, a := range tables {
		for _, b := range tables {
			for level := range api.MaxLevels {
				var v Version
				v.Levels[0] = metas(a)
				v.Levels[level] = append(v.Levels[level], b)
				heldVersion(t, v)
				v = Version{}
				v.Levels[level] = metas(a, b)
				heldVersion(t, v)
			}
		}
	}
}

func TestApplyNothing(t *testing.T) { // P15.1
	eachSample(t, func(t *testing.T, v Version) {
		for _, e := range []Edit{{}, {Add: []Place{}, Drop: []int{}}} {
			if next := heldApply(t, v, e, api.OK); !modelEqual(next, v) {
				t.Errorf("Apply of nothing: %v, not %v", next, v)
			}
		}
	})
}

func TestApplyAddAlone(t *testing.T) { // P15.1
	for level := range api.MaxLevels {
		m := meta(7, "m", "o", Ref{3, 4}, Ref{5, 6})
		next := heldApply(t, Version{}, edit(nil, place(level, m)), api.OK)
		var want Version
		want.Levels[level] = metas(m)
		if !modelEqual(next, want) {
			t.Errorf("Apply into level %d: %v", level, next)
		}
	}
	eachSample(t, func(t *testing.T, v Version) {
		for level := range api.MaxLevels {
			for _, z := range []int{0, 1, 7, 40, 63} {
				for _, user := range someUsers(v) {
					heldApply(t, v, edit(nil, place(level, meta(z, user, user))))
				}
			}
		}
	})
}

func TestApplyDropAlone(t *testing.T) { // P15.1
	eachSample(t, func(t *testing.T, v Version) {
		all := zonesOf(modelTables(v))
		for _, z := range askedZones() {
			want := api.ErrVersion
			if slices.Contains(all, z) {
				want = api.OK
			}
			next := heldApply(t, v, edit([]int{z}), want)
			if _, ok := modelHas(next, z); ok {
				t.Errorf("Apply of Drop %d: it is there", z)
			}
		}
		if next := heldApply(t, v, edit(all), api.OK); !modelEqual(next, Version{}) {
			t.Errorf("Apply of Drop of all: %v", next)
		}
		slices.Reverse(all)
		heldApply(t, v, edit(all), api.OK)
		heldApply(t, v, edit(append(all, 64)), api.ErrVersion)
	})
}

func TestApplyDropOfWhatIsNotThere(t *testing.T) { // P15.1
	v := samples()["in all levels"]
	for _, drop := range [][]int{
		{1}, {63}, {-1}, {64}, {20, 1}, {1, 20}, {20, 21, 12, 1}, {math.MinInt}, {math.MaxInt},
		{20, 20}, {12, 12}, {0, 0}, {34, 34}, {20, 21, 20}, {20, 12, 20}, {20, 20, 20},
	} {
		heldApply(t, v, edit(drop), api.ErrVersion)
		heldApply(t, v, edit(drop, place(1, meta(40, "m", "n"))), api.ErrVersion)
		heldApply(t, v, edit(drop, place(0, meta(20, "m", "n"))), api.ErrVersion)
	}
	// What is added by the same edit isn't there yet.
	heldApply(t, v, edit([]int{40}, place(1, meta(40, "m", "n"))), api.ErrVersion)
}

func TestApplyAddAgain(t *testing.T) { // P15.1: a zone that is dropped may be added by the same edit
	v := samples()["in all levels"]
	for _, z := range zonesOf(modelTables(v)) {
		for level := range api.MaxLevels {
			heldApply(t, v, edit(nil, place(level, meta(z, "z\x00", "z\x00"))), api.ErrVersion)
			heldApply(t, v, edit([]int{z}, place(level, meta(z, "j", "j"))), api.OK)
			heldApply(t, v, edit([]int{z}, place(level, meta(z, "j", "j")), place(level, meta(z, "ja", "ja"))), api.ErrVersion)
		}
	}
	next := heldApply(t, v, edit([]int{11}, place(1, meta(11, "c", "e"))), api.OK)
	wantLevel(t, next, 1, 12, 11, 10)
	next = heldApply(t, v, edit([]int{21}, place(0, meta(21, "x", "y"))), api.OK)
	wantLevel(t, next, 0, 20, 21, 22)
	next = heldApply(t, v, edit([]int{34}, place(0, meta(34, "x", "y"))), api.OK)
	wantLevel(t, next, 0, 34, 20, 21, 22)
	wantLevel(t, next, 3, 30, 31, 32, 33)
}

func TestApplyLevels(t *testing.T) { // P15.1
	for _, v := range []Version{{}, samples()["the chapter's"], samples()["in all levels"]} {
		for _, level := range askedLevels() {
			want := api.ErrVersion
			if level >= 0 && level <= 3 {
				want = api.OK
			}
			m := meta(50, "j", "jj")
			heldApply(t, v, edit(nil, place(level, m)), want)
			heldApply(t, v, edit(nil, place(0, meta(51, "a", "c")), place(level, m)), want)
			heldApply(t, v, edit(nil, place(level, m), place(0, meta(51, "a", "c"))), want)
		}
	}
}

func TestApplyIntoLevel0(t *testing.T) { // P15.1
	v := version(metas(meta(1, "a", "c"), meta(2, "a", "c"), meta(3, "a", "c"), meta(4, "a", "c")), metas(meta(5, "a", "b"), meta(6, "m", "n")))
	add := []Place{place(0, meta(7, "z", "z")), place(0, meta(8, "a", "a")), place(0, meta(9, "m", "m"))}
	for _, c := range []struct {
		drop []int
		want []int
	}{
		{nil, []int{9, 8, 7, 1, 2, 3, 4}},
		{[]int{5}, []int{9, 8, 7, 1, 2, 3, 4}},
		{[]int{6, 5}, []int{9, 8, 7, 1, 2, 3, 4}},
		{[]int{1}, []int{9, 8, 7, 2, 3, 4}},
		{[]int{2}, []int{1, 9, 8, 7, 3, 4}},
		{[]int{3}, []int{1, 2, 9, 8, 7, 4}},
		{[]int{4}, []int{1, 2, 3, 9, 8, 7}},
		{[]int{5, 4}, []int{1, 2, 3, 9, 8, 7}},
		{[]int{3, 5}, []int{1, 2, 9, 8, 7, 4}},
		{[]int{1, 2}, []int{9, 8, 7, 3, 4}},
		{[]int{2, 1}, []int{9, 8, 7, 3, 4}},
		{[]int{1, 3}, []int{9, 8, 7, 2, 4}},
		{[]int{3, 1}, []int{2, 9, 8, 7, 4}},
		{[]int{1, 4}, []int{9, 8, 7, 2, 3}},
		{[]int{4, 1}, []int{2, 3, 9, 8, 7}},
		{[]int{6, 4, 5, 1}, []int{2, 3, 9, 8, 7}},
		{[]int{2, 3}, []int{1, 9, 8, 7, 4}},
		{[]int{3, 2}, []int{1, 9, 8, 7, 4}},
		{[]int{2, 4}, []int{1, 9, 8, 7, 3}},
		{[]int{4, 2}, []int{1, 3, 9, 8, 7}},
		{[]int{4, 3}, []int{1, 2, 9, 8, 7}},
		{[]int{3, 1, 2}, []int{9, 8, 7, 4}},
		{[]int{3, 4, 1}, []int{2, 9, 8, 7}},
		{[]int{4, 3, 2, 1}, []int{9, 8, 7}},
		{[]int{1, 2, 3, 4}, []int{9, 8, 7}},
		{[]int{4, 1, 2, 3}, []int{9, 8, 7}},
	} {
		next := heldApply(t, v, edit(c.drop, add...), api.OK)
		wantLevel(t, next, 0, c.want...)
		one := heldApply(t, v, edit(c.drop, add[2]), api.OK)
		wantLevel(t, one, 0, slices.DeleteFunc(c.want, func(z int) bool { return z == 7 || z == 8 })...)
	}
}

func TestApplyIntoDeeperLevels(t *testing.T) { // P15.1
	for level := 1; level < api.MaxLevels; level++ {
		var v Version
		v.Levels[level] = metas(meta(1, "d", "f"), meta(2, "h", "h"), meta(3, "k", "m"))
		for _, c := range []struct {
			small, large string
			want         []int
		}{
			{"a", "b", []int{9, 1, 2, 3}}, {"a", "c\xff", []int{9, 1, 2, 3}}, {"\x00", "\x00", []int{9, 1, 2, 3}},
			{"f\x00", "g", []int{1, 9, 2, 3}}, {"g", "g", []int{1, 9, 2, 3}}, {"i", "j", []int{1, 2, 9, 3}}, {"h\x00", "jz", []int{1, 2, 9, 3}},
			{"m\x00", "m\x00", []int{1, 2, 3, 9}}, {"n", "z", []int{1, 2, 3, 9}},
			{"a", "d", nil}, {"a", "e", nil}, {"a", "g", nil}, {"a", "z", nil}, {"d", "f", nil}, {"e", "e", nil}, {"f", "g", nil},
			{"g", "h", nil}, {"h", "h", nil}, {"h", "i", nil}, {"g", "i", nil}, {"g", "l", nil}, {"l", "z", nil}, {"m", "m", nil}, {"m", "z", nil},
		} {
			e := edit(nil, place(level, meta(9, c.small, c.large)))
			if c.want == nil {
				heldApply(t, v, e, api.ErrVersion)
				continue
			}
			next := heldApply(t, v, e, api.OK)
			wantLevel(t, next, level, c.want...)
		}
		heldApply(t, v, edit([]int{2}, place(level, meta(9, "g", "i"))), api.OK)
		next := heldApply(t, v, edit([]int{3, 1}, place(level, meta(9, "p", "q")), place(level, meta(10, "a", "b")), place(level, meta(11, "i", "o"))), api.OK)
		wantLevel(t, next, level, 10, 2, 11, 9)
	}
}

func TestApplyInEachOrder(t *testing.T) { // P15.1: a deeper level rises, however its tables come
	tables := metas(meta(1, "a", "b"), meta(2, "c", "c"), meta(3, "d", "f"), meta(4, "g", "z"))
	for i := range 256 {
		var order []Place
		used := map[int]bool{}
		for _, at := range []int{i % 4, i / 4 % 4, i / 16 % 4, i / 64} {
			if !used[at] {
				used[at] = true
				order = append(order, place(2, tables[at]))
			}
		}
		if len(order) == 4 {
			next := heldApply(t, Version{}, edit(nil, order...), api.OK)
			wantLevel(t, next, 2, 1, 2, 3, 4)
		}
	}
}

func TestApplyOfAWrongPlace(t *testing.T) { // P15.1: the last, the middle or the first place is wrong, all others are right
	v := samples()["in all levels"]
	wrong := []Place{
		place(4, meta(50, "j", "jj")), place(-1, meta(50, "j", "jj")),
		place(0, meta(64, "j", "jj")), place(0, meta(-1, "j", "jj")), place(3, meta(20, "j", "jj")), place(0, meta(31, "j", "jj")),
		place(0, meta(50, "jj", "j")), place(1, meta(50, "jj", "j")), place(0, meta(50, "", "j")), place(2, meta(50, "", "")),
		place(0, meta(50, "j", "jj", Ref{1, 0})), place(1, meta(50, "j", "jj", Ref{2, 1}, Ref{1, 1})),
		place(1, meta(50, "e", "f")), place(1, meta(50, "b", "c")), place(3, meta(50, "j", "k")), place(2, meta(50, "a", "z")),
		place(0, meta(51, "j", "jj")), place(1, meta(53, "l", "m")), place(0, Meta{}),
	}
	right := []Place{place(0, meta(51, "a", "z")), place(1, meta(52, "k", "l")), place(2, meta(53, "d", "e", Ref{9, 9}))}
	heldApply(t, v, edit(nil, right...), api.OK)
	heldApply(t, v, edit([]int{33, 22}, right...), api.OK)
	for _, p := range wrong {
		for i := range len(right) + 1 {
			add := slices.Insert(slices.Clone(right), i, p)
			heldApply(t, v, edit(nil, add...), api.ErrVersion)
			heldApply(t, v, edit([]int{33, 22}, add...), api.ErrVersion)
		}
	}
}

func TestApplyMany(t *testing.T) { // P15.1, P1: as many tables as there are zones, and more
	v := full()
	var e Edit
	for _, level := range []int{3, 1, 0, 2} {
		for i := range v.Levels[level] {
			e.Add = append(e.Add, place(level, v.Levels[level][len(v.Levels[level])-1-i]))
		}
	}
	if next := heldApply(t, Version{}, e, api.OK); !modelEqual(next, v) {
		t.Errorf("Apply of all: %v", next)
	}
	more := edit(nil, append(e.Add, place(0, meta(0, "a", "b")))...)
	heldApply(t, Version{}, more, api.ErrVersion)
	heldApply(t, v, edit(nil, place(0, meta(0, "a", "b"))), api.ErrVersion)
	e.Drop = zonesOf(modelTables(v))
	heldApply(t, v, e, api.OK)
	heldApply(t, v, edit(append(e.Drop, 5), e.Add...), api.ErrVersion)
	for range 11 {
		e.Add, e.Drop = append(e.Add, e.Add...), append(e.Drop, e.Drop...)
	}
	for _, great := range []Edit{e, {Add: e.Add}, {Drop: e.Drop}} {
		if next, err := v.Apply(great); err != api.ErrVersion || !modelEqual(next, Version{}) {
			t.Errorf("Apply of very much: %v, %d", next, err)
		}
		if next, err := (Version{}).Apply(great); err != api.ErrVersion || !modelEqual(next, Version{}) {
			t.Errorf("Apply of very much: %v, %d", next, err)
		}
	}
}

// sequences: all lists of at most so many of the items.
func sequences[T any](items []T, most int) [][]T {
	all := [][]T{nil}
	from := 0
	for range most {
		to := len(all)
		for _, l := range all[from:to] {
			for _, x := range items {
				all = append(all, append(slices.Clone(l), x))
			}
		}
		from = to
	}
	return all
}

func TestApplyOfAllSmallEdits(t *testing.T) { // P15.1
	v := version(metas(meta(1, "a", "c"), meta(2, "b", "d"), meta(3, "c", "c")), metas(meta(4, "b", "c")), nil, metas(meta(5, "a", "z")))
	adds := sequences([]Place{
		place(0, meta(6, "b", "b")), place(0, meta(2, "e", "f")), place(1, meta(7, "a", "a")), place(1, meta(4, "c", "d")),
		place(2, meta(8, "a", "z")), place(3, meta(9, "c", "c")), place(4, meta(10, "c", "c")),
	}, 3)
	right := 0
	for _, drop := range sequences([]int{1, 2, 3, 4, 5, 6}, 3) {
		for _, add := range adds {
			if next := heldApply(t, v, Edit{add, drop}); !modelEqual(next, Version{}) {
				right++
			}
		}
	}
	if right < 1000 {
		t.Errorf("%d were right only", right)
	}
}

// someMeta: a table of some few users' keys, now and then a wrong one.
func someMeta(c *chance) Meta {
	m := meta(c.below(12), string(rune('a'+c.below(12))), string(rune('a'+c.below(12))))
	m.Large.User = max(m.Large.User, m.Small.User)
	if c.below(3) > 0 {
		m.Large.User = m.Small.User
	}
	m.Len = 1 + c.below(3)
	for z := range 4 {
		if c.below(4) == 0 {
			m.Refs = append(m.Refs, Ref{z, 1 + c.below(9)})
		}
	}
	switch c.below(60) {
	case 0:
		m.Small.User, m.Large.User = m.Large.User, m.Small.User
	case 1:
		m.Refs = append(m.Refs, Ref{2, 1})
	case 2:
		m.Len = 0
	}
	return m
}

// someEdit: some few drops and adds, mostly such as may be.
func someEdit(c *chance, v Version) Edit {
	var e Edit
	there := zonesOf(modelTables(v))
	for range c.below(3) {
		if len(there) > 0 && c.below(20) > 0 {
			i := c.below(len(there))
			e.Drop = append(e.Drop, there[i])
			there = slices.Delete(there, i, i+1)
		} else if c.below(4) == 0 {
			e.Drop = append(e.Drop, c.below(13))
		}
	}
	for range c.below(3) {
		m := someMeta(c)
		if slices.Contains(there, m.Zone) && c.below(10) > 0 {
			continue
		}
		there = append(there, m.Zone)
		e.Add = append(e.Add, place(c.below(4), m))
	}
	return e
}

func TestManyEdits(t *testing.T) { // P15.1, P15.2: one behind the other
	c := &chance{state: 3}
	counts := map[api.Errno]int{}
	for range 60 {
		var v Version
		for range 150 {
			e := someEdit(c, v)
			next, err := v.Apply(e)
			heldApply(t, v, e, err)
			counts[err]++
			if err == api.OK {
				v = next
			}
			heldQuestions(t, v, string(rune('a'+c.below(12))), string(rune('a'+c.below(12))))
		}
	}
	if counts[api.OK] < 3000 || counts[api.ErrVersion] < 500 {
		t.Errorf("told: %v", counts)
	}
}

// heldQuestions asks a version about two users' keys, and holds what is told against the model.
func heldQuestions(t *testing.T, v Version, small, large string) {
	t.Helper()
	for _, level := range askedLevels() {
		if l := v.At(level, small); !modelSame(l, modelAt(v, level, small)) {
			t.Errorf("At(%d, %q) of %v: %v", level, small, v, l)
		}
		if l := v.Over(level, small, large); !modelSame(l, modelOver(v, level, small, large)) {
			t.Errorf("Over(%d, %q, %q) of %v: %v", level, small, large, v, l)
		}
		if got := v.Deeper(level, small); got != modelDeeper(v, level, small) {
			t.Errorf("Deeper(%d, %q) of %v: %t", level, small, v, got)
		}
	}
	for _, m := range modelTables(v) {
		if got := m.Covers(small); got != modelCovers(m, small) {
			t.Errorf("Covers(%q) of %v: %t", small, m, got)
		}
	}
}

func TestQuestionsOfUsers(t *testing.T) { // P15.2: At, Over, Deeper, Covers
	eachSample(t, func(t *testing.T, v Version) {
		for _, user := range askedUsers(v) {
			heldQuestions(t, v, user, user)
		}
		users := someUsers(v)
		for _, small := range users {
			for _, large := range users {
				heldQuestions(t, v, small, large)
			}
		}
	})
}

func TestQuestionsOfZones(t *testing.T) { // P15.2: Has, Live, Tables
	eachSample(t, func(t *testing.T, v Version) {
		for _, z := range askedZones() {
			level, ok := v.Has(z)
			if want, there := modelHas(v, z); level != want || ok != there {
				t.Errorf("Has(%d): %d, %t", z, level, ok)
			}
			if n := v.Live(z); n != modelLive(v, z) {
				t.Errorf("Live(%d): %d, not %d", z, n, modelLive(v, z))
			}
		}
		if l := v.Tables(); !modelSame(l, modelTables(v)) {
			t.Errorf("Tables: %v", l)
		}
	})
}

func TestAt(t *testing.T) { // P15.2
	v := samples()["in all levels"]
	for _, c := range []struct {
		level int
		user  string
		want  []int
	}{
		{0, "", nil}, {0, "\x00", nil}, {0, "a", []int{20, 21}}, {0, "c", []int{20, 21}}, {0, "e", []int{20, 21}}, {0, "e\x00", nil}, {0, "z", []int{22}}, {0, "zz", nil},
		{1, "", nil}, {1, "A", nil}, {1, "a", []int{12}}, {1, "aa", []int{12}}, {1, "b", []int{12}}, {1, "b\x00", nil}, {1, "c", nil}, {1, "d", []int{11}}, {1, "da", nil}, {1, "f", []int{10}}, {1, "i", []int{10}}, {1, "i\x00", nil}, {1, "z", nil},
		{2, "a", nil}, {2, "b", []int{0}}, {2, "c", []int{0}}, {2, "d", nil},
		{3, "", nil}, {3, "\x00", []int{30}}, {3, "a", []int{30}}, {3, "a\x00", nil}, {3, "aa", []int{31}}, {3, "aab", []int{31}}, {3, "aac", nil}, {3, "c\x00", []int{32}}, {3, "c\x00a", []int{33}}, {3, "\xff", []int{34}}, {3, "\xff\xff\x00", nil},
		{-1, "a", nil}, {4, "a", nil}, {math.MinInt, "a", nil}, {math.MaxInt, "a", nil},
	} {
		if l := v.At(c.level, c.user); !slices.Equal(zonesOf(l), c.want) {
			t.Errorf("At(%d, %q): %v, not %v", c.level, c.user, zonesOf(l), c.want)
		}
	}
}

func TestOver(t *testing.T) { // P15.2
	v := samples()["in all levels"]
	for _, c := range []struct {
		level        int
		small, large string
		want         []int
	}{
		{0, "", "", nil}, {0, "", "a", []int{20, 21}}, {0, "e", "y", []int{20, 21}}, {0, "f", "y", nil}, {0, "f", "z", []int{22}}, {0, "a", "z", []int{20, 21, 22}},
		{0, "d", "b", nil}, {0, "e", "a", nil}, // the other way round, there is no key, though a table covers both
		{1, "", "A", nil}, {1, "", "a", []int{12}}, {1, "b", "d", []int{12, 11}}, {1, "b\x00", "c", nil}, {1, "c", "e", []int{11}}, {1, "a", "z", []int{12, 11, 10}}, {1, "g", "h", []int{10}}, {1, "h", "g", nil}, {1, "i", "f", nil}, {1, "z", "a", nil}, {1, "i\x00", "z", nil}, {1, "d", "d", []int{11}}, {1, "g", "g", []int{10}},
		{3, "a\x00", "a\x00", nil}, {3, "a\x00", "aa", []int{31}}, {3, "\xff\xff", "\xff\xff\xff", []int{34}}, {3, "\xff\xff\x00", "\xff\xff\xff", nil},
		{-1, "a", "z", nil}, {4, "a", "z", nil}, {math.MinInt, "a", "z", nil}, {math.MaxInt, "a", "z", nil},
	} {
		if l := v.Over(c.level, c.small, c.large); !slices.Equal(zonesOf(l), c.want) {
			t.Errorf("Over(%d, %q, %q): %v, not %v", c.level, c.small, c.large, zonesOf(l), c.want)
		}
	}
}

func TestDeeper(t *testing.T) { // P15.2
	v := samples()["in all levels"]
	for _, c := range []struct {
		level int
		user  string
		want  bool
	}{
		{-1, "z", true}, {-1, "e", true}, {-1, "e\x00", false}, {-1, "", false}, {math.MinInt, "z", true},
		{0, "z", true}, {0, "e", false}, {0, "d", true}, {0, "i", true}, {0, "j", false}, {0, "b", true},
		{1, "d", false}, {1, "b", true}, {1, "c", true}, {1, "i", false},
		{2, "b", true}, {2, "d", false}, {2, "a", true}, {2, "k", true}, {2, "", false},
		{3, "a", false}, {3, "k", false}, {4, "a", false}, {math.MaxInt, "a", false}, {math.MaxInt - 1, "a", false},
	} {
		if got := v.Deeper(c.level, c.user); got != c.want {
			t.Errorf("Deeper(%d, %q): %t", c.level, c.user, got)
		}
	}
}

func TestCovers(t *testing.T) { // P15.2
	m := meta(1, "b", "d")
	for _, c := range []struct {
		user string
		want bool
	}{
		{"", false}, {"a", false}, {"a\xff", false}, {"b", true}, {"b\x00", true}, {"c", true}, {"d", true}, {"d\x00", false}, {"e", false}, {"\xff", false},
		{strings.Repeat("c", 65), true}, {strings.Repeat("d", 65), false},
	} {
		if got := m.Covers(c.user); got != c.want {
			t.Errorf("Covers(%q): %t", c.user, got)
		}
	}
	one := Meta{Zone: 1, Len: 1, Small: key("b", 1, 1), Large: key("b", 1, 1)}
	if one.Covers("a") || !one.Covers("b") || one.Covers("c") || (Meta{}).Covers("a") {
		t.Errorf("Covers of a table of one key, or of none")
	}
}

func TestLive(t *testing.T) { // P15.2
	v := samples()["in all levels"]
	for z, want := range map[int]int{7: 116, 8: 1<<30 + 2, 9: 0, 0: 0, 20: 0, -1: 0, 64: 0} {
		if n := v.Live(z); n != want {
			t.Errorf("Live(%d): %d, not %d", z, n, want)
		}
	}
	if n := full().Live(63); n != 1<<36 {
		t.Errorf("Live of the greatest: %d", n)
	}
}

// turned: versions that are another one than v, each in one thing.
func turned(v Version) []Version {
	var l []Version
	turn := func(f func(o *Version)) {
		o := v.copied()
		f(&o)
		l = append(l, o)
	}
	for level := range v.Levels {
		turn(func(o *Version) { o.Levels[level] = append(o.Levels[level], meta(60, "~", "~")) })
		for i := range v.Levels[level] {
			for _, f := range turns() {
				turn(func(o *Version) { f(&o.Levels[level][i]) })
			}
			turn(func(o *Version) { o.Levels[level] = slices.Delete(o.Levels[level], i, i+1) })
			turn(func(o *Version) {
				m := o.Levels[level][i]
				o.Levels[level] = slices.Delete(o.Levels[level], i, i+1)
				below := (level + 1) % api.MaxLevels
				o.Levels[below] = slices.Insert(o.Levels[below], 0, m)
			})
			if i > 0 {
				turn(func(o *Version) {
					o.Levels[level][i], o.Levels[level][i-1] = o.Levels[level][i-1], o.Levels[level][i]
				})
			}
		}
	}
	return l
}

// turns: each has one thing of a meta be another one.
func turns() []func(m *Meta) {
	return []func(m *Meta){
		func(m *Meta) { m.Zone++ },
		func(m *Meta) { m.Len++ },
		func(m *Meta) { m.Small.User += "a" },
		func(m *Meta) { m.Small.Seq++ },
		func(m *Meta) { m.Small.Kind++ },
		func(m *Meta) { m.Large.User += "a" },
		func(m *Meta) { m.Large.Seq++ },
		func(m *Meta) { m.Large.Kind++ },
		func(m *Meta) { m.Refs = append(m.Refs, Ref{62, 1}) },
		func(m *Meta) { m.Refs = append([]Ref{{0, 7}}, m.Refs...) },
		func(m *Meta) {
			if len(m.Refs) > 0 {
				m.Refs[len(m.Refs)-1].Bytes++
			} else {
				m.Len = 7
			}
		},
		func(m *Meta) {
			if len(m.Refs) > 0 {
				m.Refs[0].Zone++
			} else {
				m.Len = 8
			}
		},
	}
}

func TestEqual(t *testing.T) { // P15.2
	eachSample(t, func(t *testing.T, v Version) {
		same := v.copied()
		if !v.Equal(v) || !v.Equal(same) || !same.Equal(v) {
			t.Errorf("it isn't equal to itself")
		}
		for _, o := range turned(v) {
			if v.Equal(o) || o.Equal(v) {
				t.Errorf("%v is equal to %v", o, v)
			}
		}
		if len(modelTables(v)) > 10 {
			return
		}
		others := turned(v)
		for _, a := range others {
			for _, b := range others {
				if a.Equal(b) != modelEqual(a, b) {
					t.Errorf("Equal of %v and %v: %t", a, b, a.Equal(b))
				}
			}
		}
	})
	if all := samples(); !all["empty"].Equal(all["empty levels"]) || all["empty"].Equal(all["the chapter's"]) {
		t.Errorf("Equal of the empty version")
	}
	if a, b := version(metas(meta(1, "a", "b"))), version(metas(meta(1, "a", "b", []Ref{}...))); !a.Equal(b) {
		t.Errorf("Equal of no Refs, nil and empty")
	}
	if a, b := version(metas(meta(1, "a", "b"))), version(nil, metas(meta(1, "a", "b"))); a.Equal(b) || b.Equal(a) {
		t.Errorf("Equal of one table in two levels")
	}
}
