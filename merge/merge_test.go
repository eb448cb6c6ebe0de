package merge

import (
	"cmp"
	"math"
	"slices"
	"strconv"
	"strings"
	"testing"

	"tithebarn/api"
)

// pair: an item with a number as its key and a text as its value.
type pair = Item[int, string]

func at(k int, v string) pair { return pair{Key: k, Value: v} }

// run: the numbers, each with the name of the run and itself as its value.
func run(name string, ks ...int) []pair {
	var l []pair
	for _, k := range ks {
		l = append(l, at(k, name+strconv.Itoa(k)))
	}
	return l
}

// modelMerge: as the document words it: all keys, rising, each with the value that it has in the first run that has it.
func modelMerge[K cmp.Ordered, V any](runs [][]Item[K, V]) []Item[K, V] {
	var l []Item[K, V]
	for _, run := range runs {
		for _, x := range run {
			if !slices.ContainsFunc(l, func(o Item[K, V]) bool { return cmp.Compare(o.Key, x.Key) == 0 }) {
				l = append(l, x)
			}
		}
	}
	slices.SortFunc(l, func(a, b Item[K, V]) int { return cmp.Compare(a.Key, b.Key) })
	return l
}

// modelFind: the items one by one, from the first on.
func modelFind[K cmp.Ordered, V any](run []Item[K, V], k K) (int, bool) {
	for i, x := range run {
		if !cmp.Less(x.Key, k) {
			return i, cmp.Compare(x.Key, k) == 0
		}
	}
	return len(run), false
}

// modelCursor: a place in what the model tells as one; one that is outside of it is none.
type modelCursor[K cmp.Ordered, V any] struct {
	items []Item[K, V]
	place int
}

func newModelCursor[K cmp.Ordered, V any](runs [][]Item[K, V]) *modelCursor[K, V] {
	return &modelCursor[K, V]{items: modelMerge(runs), place: -1}
}

func (m *modelCursor[K, V]) valid() bool { return m.place >= 0 && m.place < len(m.items) }

func (m *modelCursor[K, V]) item() Item[K, V] {
	if !m.valid() {
		return Item[K, V]{}
	}
	return m.items[m.place]
}

func (m *modelCursor[K, V]) first() { m.place = 0 }

func (m *modelCursor[K, V]) last() { m.place = len(m.items) - 1 }

func (m *modelCursor[K, V]) seek(k K) { m.place, _ = modelFind(m.items, k) }

func (m *modelCursor[K, V]) step(by int) {
	if m.valid() {
		m.place += by
	}
}

// standsAs holds where a cursor is, and what it told when it went there, against an item; nil is none.
func standsAs[K cmp.Ordered, V comparable](t *testing.T, call string, c *Cursor[K, V], told bool, want *Item[K, V]) {
	t.Helper()
	var item Item[K, V]
	if want != nil {
		item = *want
	}
	for range 2 { // asked twice, it tells the same
		if told != (want != nil) || c.Valid() != told || !alike(c.Item(), item) {
			t.Fatalf("%s: %t, Valid %t, Item %v, not %v", call, told, c.Valid(), c.Item(), item)
		}
	}
}

// alike: equal; keys that are not equal to themselves are alike, too.
func alike[K cmp.Ordered, V comparable](a, b Item[K, V]) bool {
	return cmp.Compare(a.Key, b.Key) == 0 && a.Value == b.Value
}

func sameItems[K cmp.Ordered, V comparable](a, b []Item[K, V]) bool {
	return slices.EqualFunc(a, b, alike[K, V])
}

// merged tells what must be told without an error.
func merged[K cmp.Ordered, V any](t *testing.T, runs ...[]Item[K, V]) []Item[K, V] {
	t.Helper()
	l, e := Merge(runs...)
	if e != api.OK {
		t.Fatalf("Merge: %d", e)
	}
	return l
}

func made[K cmp.Ordered, V any](t *testing.T, runs ...[]Item[K, V]) *Cursor[K, V] {
	t.Helper()
	c, e := New(runs...)
	if c == nil || e != api.OK {
		t.Fatalf("New: %v, %d", c, e)
	}
	return c
}

// random: numbers that are the same at each run.
func random(seed uint64) func(n int) int {
	return func(n int) int {
		seed = seed*6364136223846793005 + 1442695040888963407
		return int((seed >> 33) % uint64(n))
	}
}

func TestExamples(t *testing.T) {
	a, b := []pair{at(1, "a"), at(3, "b")}, []pair{at(1, "x"), at(2, "y")}
	if l := merged(t, a, b); !slices.Equal(l, []pair{at(1, "a"), at(2, "y"), at(3, "b")}) {
		t.Errorf("Merge: %v", l)
	}
	c := made(t, a, b)
	standsAs(t, "Seek(2)", c, c.Seek(2), &pair{2, "y"})
	standsAs(t, "Prev", c, c.Prev(), &pair{1, "a"})
}

func TestCheck(t *testing.T) { // P6.1
	right := [][]int{{}, {0}, {1}, {-1}, {math.MinInt}, {math.MaxInt}, {1, 2}, {-1, 0}, {0, 1}, {-5, 7, 9}, {math.MinInt, math.MaxInt}, {math.MinInt, math.MinInt + 1, 0, math.MaxInt - 1, math.MaxInt}}
	for _, ks := range right {
		if e := Check(run("v", ks...)); e != api.OK {
			t.Errorf("Check(%v): %d", ks, e)
		}
	}
	wrong := [][]int{{1, 1}, {0, 0}, {2, 1}, {1, -1}, {1, 1, 2}, {1, 2, 2}, {1, 2, 1}, {1, 3, 2}, {3, 1, 2}, {3, 2, 1}, {1, 1, 1}, {1, 2, 3, 3, 4, 5}, {1, 2, 4, 3, 5, 6}, {2, 1, 3, 4, 5}, {1, 2, 3, 5, 4}, {math.MaxInt, math.MinInt}, {math.MinInt, math.MinInt}, {math.MaxInt, math.MaxInt}, {0, math.MinInt}}
	for _, ks := range wrong {
		if e := Check(run("v", ks...)); e != api.ErrOrder {
			t.Errorf("Check(%v): %d", ks, e)
		}
	}
	if e := Check[int, string](nil); e != api.OK {
		t.Errorf("Check(nil): %d", e)
	}
	if e := Check([]pair{}); e != api.OK {
		t.Errorf("Check of no items: %d", e)
	}
	if e := Check([]pair{at(1, "b"), at(1, "a")}); e != api.ErrOrder {
		t.Errorf("values part equal keys: %d", e)
	}
	if e := Check([]pair{at(1, "b"), at(2, "b"), at(3, "a")}); e != api.OK {
		t.Errorf("values need not rise: %d", e)
	}
}

func TestCheckAtEachPlace(t *testing.T) { // P6.1
	const size = 70
	for wrong := range size {
		rising := make([]pair, size)
		for i := range rising {
			rising[i].Key = 3 * i
		}
		if e := Check(rising); e != api.OK {
			t.Fatalf("Check: %d", e)
		}
		if wrong == 0 {
			continue
		}
		for _, by := range []int{3, 4, 5, 1000} { // as the one ahead, and below it
			rising[wrong].Key = 3*wrong - by
			if e := Check(rising); e != api.ErrOrder {
				t.Fatalf("Check with %d less at %d: %d", by, wrong, e)
			}
		}
	}
}

func TestMerge(t *testing.T) { // P6.1
	cases := []struct {
		name string
		runs [][]pair
		want []pair
	}{
		{"no run at all", nil, nil},
		{"an empty run", [][]pair{nil}, nil},
		{"empty runs", [][]pair{nil, {}, nil}, nil},
		{"one run of one item", [][]pair{{at(5, "a")}}, []pair{at(5, "a")}},
		{"one run", [][]pair{run("a", 1, 2, 9)}, run("a", 1, 2, 9)},
		{"an empty run ahead", [][]pair{nil, run("a", 1, 2)}, run("a", 1, 2)},
		{"an empty run behind", [][]pair{run("a", 1, 2), nil}, run("a", 1, 2)},
		{"an empty run between", [][]pair{run("a", 1, 2), nil, run("b", 2, 3)}, []pair{at(1, "a1"), at(2, "a2"), at(3, "b3")}},
		{"one behind the other", [][]pair{run("a", 1, 2), run("b", 3, 4)}, []pair{at(1, "a1"), at(2, "a2"), at(3, "b3"), at(4, "b4")}},
		{"one ahead of the other", [][]pair{run("a", 3, 4), run("b", 1, 2)}, []pair{at(1, "b1"), at(2, "b2"), at(3, "a3"), at(4, "a4")}},
		{"by turns", [][]pair{run("a", 1, 3, 5), run("b", 2, 4, 6)}, []pair{at(1, "a1"), at(2, "b2"), at(3, "a3"), at(4, "b4"), at(5, "a5"), at(6, "b6")}},
		{"within the other", [][]pair{run("a", 1, 6), run("b", 2, 4)}, []pair{at(1, "a1"), at(2, "b2"), at(4, "b4"), at(6, "a6")}},
		{"the same key in all", [][]pair{run("c", 7), run("a", 7), run("b", 7)}, run("c", 7)},
		{"the same key in the later ones", [][]pair{run("a", 1), run("c", 2), run("b", 2), run("d", 1, 2)}, []pair{at(1, "a1"), at(2, "c2")}},
		{"all alike", [][]pair{run("a", 1, 2, 3), run("a", 1, 2, 3), run("a", 1, 2, 3)}, run("a", 1, 2, 3)},
		{"alike but for their values", [][]pair{run("b", 1, 2, 3), run("a", 1, 2, 3), run("c", 1, 2, 3)}, run("b", 1, 2, 3)},
		{"ten of one", [][]pair{run("a", 9), run("a", 8), run("a", 7), run("a", 6), run("a", 5), run("a", 4), run("a", 3), run("a", 2), run("a", 1), run("a", 0)}, run("a", 0, 1, 2, 3, 4, 5, 6, 7, 8, 9)},
		{"zeros", [][]pair{{at(0, "")}, {at(0, "x")}}, []pair{at(0, "")}},
		{"zeros behind", [][]pair{{at(0, "x")}, {at(-1, ""), at(0, "")}}, []pair{at(-1, ""), at(0, "x")}},
		{"the ends", [][]pair{run("a", math.MinInt, math.MaxInt), run("b", math.MinInt, 0, math.MaxInt)}, []pair{at(math.MinInt, "a"+strconv.Itoa(math.MinInt)), at(0, "b0"), at(math.MaxInt, "a"+strconv.Itoa(math.MaxInt))}},
	}
	for _, c := range cases {
		l, e := Merge(c.runs...)
		if e != api.OK || !slices.Equal(l, c.want) {
			t.Errorf("%s: %v, %d, not %v", c.name, l, e, c.want)
		}
		if !slices.Equal(modelMerge(c.runs), c.want) {
			t.Errorf("%s: the model tells %v", c.name, modelMerge(c.runs))
		}
	}
}

// wrongRuns: lists of runs that have one that is none.
func wrongRuns() [][][]pair {
	var all [][][]pair
	for _, wrong := range [][]int{{1, 1}, {2, 1}, {0, 0}, {1, 2, 2}, {1, 3, 2}, {2, 1, 3}, {4, 3, 2, 1}, {math.MaxInt, math.MinInt}} {
		x := run("x", wrong...)
		all = append(all,
			[][]pair{x},
			[][]pair{x, x},
			[][]pair{x, run("a", 1, 2)},
			[][]pair{run("a", 1, 2), x},
			[][]pair{run("a", 1, 2), x, run("b", 2, 3)},
			[][]pair{x, run("a", 1, 2), run("b", 2, 3), run("c", 9)},
			[][]pair{run("a", 1, 2), run("b", 2, 3), run("c", 9), x},
			[][]pair{nil, x},
			[][]pair{x, nil},
			[][]pair{nil, x, {}},
			[][]pair{run("a", 1, 2, 3, 4, math.MaxInt), x})
	}
	return all
}

func TestMergeRefusesWhatIsNoRun(t *testing.T) { // P6.1
	for _, runs := range wrongRuns() {
		if l, e := Merge(runs...); e != api.ErrOrder || len(l) != 0 {
			t.Errorf("Merge(%v): %v, %d", runs, l, e)
		}
	}
}

func TestFind(t *testing.T) { // P6.1
	l := run("a", 10, 20, 30)
	cases := []struct {
		k, place int
		there    bool
	}{
		{math.MinInt, 0, false}, {-10, 0, false}, {0, 0, false}, {9, 0, false},
		{10, 0, true}, {11, 1, false}, {15, 1, false}, {19, 1, false},
		{20, 1, true}, {21, 2, false}, {29, 2, false},
		{30, 2, true}, {31, 3, false}, {math.MaxInt, 3, false},
	}
	for _, c := range cases {
		if place, there := Find(l, c.k); place != c.place || there != c.there {
			t.Errorf("Find(%d): %d, %t", c.k, place, there)
		}
	}
	for _, k := range []int{math.MinInt, -1, 0, 1, math.MaxInt} {
		if place, there := Find[int, string](nil, k); place != 0 || there {
			t.Errorf("Find(%d) in nil: %d, %t", k, place, there)
		}
		if place, there := Find([]pair{}, k); place != 0 || there {
			t.Errorf("Find(%d) in no items: %d, %t", k, place, there)
		}
	}
	if place, there := Find([]pair{{}}, 0); place != 0 || !there {
		t.Errorf("Find(0) of the zero item: %d, %t", place, there)
	}
	ends := run("a", math.MinInt, math.MaxInt)
	for k, want := range map[int]int{math.MinInt: 0, math.MinInt + 1: 1, 0: 1, math.MaxInt - 1: 1, math.MaxInt: 1} {
		if place, there := Find(ends, k); place != want || there != (k == math.MinInt || k == math.MaxInt) {
			t.Errorf("Find(%d) at the ends: %d, %t", k, place, there)
		}
	}
}

func TestFindIsTheModels(t *testing.T) { // P6.1
	for size := range 70 {
		l, r := []pair{}, random(uint64(size))
		k := -20
		for range size {
			k += 1 + r(3)
			l = append(l, at(k, ""))
		}
		for asked := -22; asked < k+3; asked++ {
			place, there := Find(l, asked)
			want, is := modelFind(l, asked)
			if place != want || there != is {
				t.Fatalf("Find(%v, %d): %d, %t, not %d, %t", l, asked, place, there, want, is)
			}
		}
	}
}

func TestFindEndsInWhatIsNoRun(t *testing.T) { // P1
	for _, runs := range wrongRuns() {
		for _, l := range runs {
			for _, k := range []int{math.MinInt, 0, 1, 2, 3, 9, math.MaxInt} {
				if place, _ := Find(l, k); place < 0 || place > len(l) {
					t.Errorf("Find(%v, %d): %d", l, k, place)
				}
			}
		}
	}
}

func TestNewRefusesWhatIsNoRun(t *testing.T) { // P6.2
	for _, runs := range wrongRuns() {
		if c, e := New(runs...); e != api.ErrOrder || c != nil {
			t.Errorf("New(%v): %v, %d", runs, c, e)
		}
	}
}

func TestCursorAtNoItem(t *testing.T) { // P6.2, P6.3
	for _, runs := range [][][]pair{nil, {nil}, {{}, nil}, {run("a", 1)}, {run("a", 1, 2), run("b", 2, 3)}, {{pair{}}}} {
		c := made(t, runs...)
		standsAs(t, "New", c, c.Valid(), nil)
		for range 3 {
			standsAs(t, "Next at none", c, c.Next(), nil)
			standsAs(t, "Prev at none", c, c.Prev(), nil)
		}
	}
}

func TestCursorOfNoItem(t *testing.T) { // P6.3
	for _, runs := range [][][]pair{nil, {nil}, {{}}, {nil, {}, nil}} {
		c := made(t, runs...)
		for range 2 {
			standsAs(t, "First", c, c.First(), nil)
			standsAs(t, "Last", c, c.Last(), nil)
			for _, k := range []int{math.MinInt, 0, math.MaxInt} {
				standsAs(t, "Seek", c, c.Seek(k), nil)
			}
			standsAs(t, "Next", c, c.Next(), nil)
			standsAs(t, "Prev", c, c.Prev(), nil)
		}
	}
}

func TestCursorOfOneItem(t *testing.T) { // P6.2, P6.3
	for _, x := range []pair{at(7, "seven"), {}, at(0, "x"), at(math.MinInt, ""), at(math.MaxInt, "")} {
		c := made(t, []pair{x})
		standsAs(t, "First", c, c.First(), &x)
		standsAs(t, "Next", c, c.Next(), nil)
		standsAs(t, "Prev behind it", c, c.Prev(), nil)
		standsAs(t, "Last", c, c.Last(), &x)
		standsAs(t, "Prev", c, c.Prev(), nil)
		standsAs(t, "Next ahead of it", c, c.Next(), nil)
		standsAs(t, "Seek", c, c.Seek(x.Key), &x)
		standsAs(t, "Seek below", c, c.Seek(math.MinInt), &x)
		if x.Key != math.MaxInt {
			standsAs(t, "Seek above", c, c.Seek(x.Key+1), nil)
		}
	}
}

func TestCursorSeeks(t *testing.T) { // P6.3
	runs := [][]pair{run("a", 10, 30), run("b", 20, 30, 50), nil, run("c", 10, 20, 40)}
	items := map[int]pair{10: at(10, "a10"), 20: at(20, "b20"), 30: at(30, "a30"), 40: at(40, "c40"), 50: at(50, "b50")}
	c := made(t, runs...)
	for from := range 3 { // from none, from an item, from none behind the last
		for _, s := range []struct{ k, want int }{{math.MinInt, 10}, {-10, 10}, {9, 10}, {10, 10}, {11, 20}, {20, 20}, {25, 30}, {30, 30}, {31, 40}, {40, 40}, {41, 50}, {50, 50}, {51, 0}, {math.MaxInt, 0}, {0, 10}} {
			switch from {
			case 1:
				c.Seek(30)
			case 2:
				c.Seek(51)
			}
			if want, ok := items[s.want]; ok {
				standsAs(t, "Seek", c, c.Seek(s.k), &want)
			} else {
				standsAs(t, "Seek", c, c.Seek(s.k), nil)
			}
		}
	}
}

func TestCursorGoesThroughAll(t *testing.T) { // P6.3
	c := made(t, run("a", 1, 3), run("b", 1, 2, 4), run("c", 0, 4, 5))
	want := []pair{at(0, "c0"), at(1, "a1"), at(2, "b2"), at(3, "a3"), at(4, "b4"), at(5, "c5")}
	for range 2 {
		told := c.First()
		for i := range want {
			standsAs(t, "Next", c, told, &want[i])
			told = c.Next()
		}
		for range 3 { // behind the last one it stays at none, wherever it is told to go from there
			standsAs(t, "Next behind the last", c, told, nil)
			standsAs(t, "Prev behind the last", c, c.Prev(), nil)
			told = c.Next()
		}
		told = c.Last()
		for i := range want {
			standsAs(t, "Prev", c, told, &want[len(want)-1-i])
			told = c.Prev()
		}
		for range 3 {
			standsAs(t, "Prev ahead of the first", c, told, nil)
			standsAs(t, "Next ahead of the first", c, c.Next(), nil)
			told = c.Prev()
		}
	}
}

func TestNextAndPrevByTurns(t *testing.T) { // P6.3
	c := made(t, run("a", 1, 3), run("b", 1, 2, 4), run("c", 0, 4, 5))
	want := []pair{at(0, "c0"), at(1, "a1"), at(2, "b2"), at(3, "a3"), at(4, "b4"), at(5, "c5")}
	for i := range len(want) - 1 {
		standsAs(t, "Seek", c, c.Seek(i), &want[i])
		for range 3 {
			standsAs(t, "Next", c, c.Next(), &want[i+1])
			standsAs(t, "Prev", c, c.Prev(), &want[i])
		}
		if i > 0 {
			standsAs(t, "Prev", c, c.Prev(), &want[i-1])
			standsAs(t, "Next", c, c.Next(), &want[i])
		}
	}
	standsAs(t, "Last", c, c.Last(), &want[5])
	standsAs(t, "Next", c, c.Next(), nil)
	standsAs(t, "First", c, c.First(), &want[0])
	standsAs(t, "Prev", c, c.Prev(), nil)
	standsAs(t, "Last", c, c.Last(), &want[5])
}

func TestZeroItemIsAnItem(t *testing.T) { // P6.2, P6.3: Valid parts it from none
	c := made(t, []pair{at(-1, ""), {}}, []pair{{}, at(1, "")})
	standsAs(t, "First", c, c.First(), &pair{-1, ""})
	standsAs(t, "Next", c, c.Next(), &pair{})
	standsAs(t, "Next", c, c.Next(), &pair{1, ""})
	standsAs(t, "Next", c, c.Next(), nil)
	standsAs(t, "Seek(0)", c, c.Seek(0), &pair{})
	standsAs(t, "Last", c, c.Last(), &pair{1, ""})
	standsAs(t, "Prev", c, c.Prev(), &pair{})
}

func TestLeastAndGreatestInts(t *testing.T) { // P6.3
	least, none, greatest := at(math.MinInt, "b"), at(0, "a"), at(math.MaxInt, "a")
	c := made(t, []pair{none, greatest}, []pair{least, at(math.MaxInt, "c")})
	standsAs(t, "First", c, c.First(), &least)
	standsAs(t, "Next", c, c.Next(), &none)
	standsAs(t, "Next", c, c.Next(), &greatest)
	standsAs(t, "Next of the greatest", c, c.Next(), nil)
	standsAs(t, "Seek(greatest)", c, c.Seek(math.MaxInt), &greatest)
	standsAs(t, "Seek(least)", c, c.Seek(math.MinInt), &least)
	standsAs(t, "Prev of the least", c, c.Prev(), nil)
	standsAs(t, "Seek", c, c.Seek(math.MinInt+1), &none)
	standsAs(t, "Seek", c, c.Seek(1), &greatest)
}

// walk has a cursor and its model make a move, and holds them against each other.
func walk[K cmp.Ordered, V comparable](t *testing.T, c *Cursor[K, V], m *modelCursor[K, V], how int, k K) {
	t.Helper()
	var told bool
	switch how {
	case 0:
		told = c.First()
		m.first()
	case 1:
		told = c.Last()
		m.last()
	case 2:
		told = c.Seek(k)
		m.seek(k)
	case 3:
		told = c.Next()
		m.step(1)
	case 4:
		told = c.Prev()
		m.step(-1)
	}
	call := []string{"First", "Last", "Seek", "Next", "Prev"}[how]
	if !m.valid() {
		standsAs(t, call, c, told, nil)
		return
	}
	x := m.item()
	standsAs(t, call, c, told, &x)
}

// asModels holds Merge, and each move of a cursor from each item and from none, against the model.
func asModels[K cmp.Ordered, V comparable](t *testing.T, runs [][]Item[K, V], asked ...K) {
	t.Helper()
	want := modelMerge(runs)
	if l := merged(t, runs...); !sameItems(l, want) {
		t.Fatalf("Merge(%v): %v, not %v", runs, l, want)
	}
	c, m := made(t, runs...), newModelCursor(runs)
	for from := -1; from <= len(want); from++ {
		for how := range 5 {
			for i, k := range asked {
				if how != 2 && i > 0 {
					break
				}
				switch {
				case from < 0: // none, by Prev of the first
					walk(t, c, m, 0, k)
					walk(t, c, m, 4, k)
				case from == len(want): // none, by Next of the last
					walk(t, c, m, 1, k)
					walk(t, c, m, 3, k)
				default:
					walk(t, c, m, 2, want[from].Key)
				}
				walk(t, c, m, how, k)
			}
		}
	}
}

func TestAllSmallRuns(t *testing.T) { // P6.1, P6.2, P6.3: three runs of any of four keys
	keysOf := func(bits int) []int {
		var ks []int
		for i := range 4 {
			if bits>>i&1 == 1 {
				ks = append(ks, 2*i)
			}
		}
		return ks
	}
	asked := []int{-1, 0, 1, 2, 3, 4, 5, 6, 7}
	for all := range 1 << 12 {
		asModels(t, [][]pair{run("a", keysOf(all&15)...), run("b", keysOf(all>>4&15)...), run("c", keysOf(all>>8)...)}, asked...)
	}
}

func TestCursorsAreTheModels(t *testing.T) { // P6.2, P6.3
	for seed := range uint64(100) {
		r := random(seed)
		wide := 1 + r(60)
		runs := make([][]pair, r(8))
		for n := range runs {
			for k := range wide {
				if r(4) < n%4 {
					runs[n] = append(runs[n], at(2*k, strconv.Itoa(n)+"."+strconv.Itoa(k)))
				}
			}
		}
		if l := merged(t, runs...); !slices.Equal(l, modelMerge(runs)) {
			t.Fatalf("seed %d: Merge: %v", seed, l)
		}
		c, m := made(t, runs...), newModelCursor(runs)
		for range 500 {
			how := r(40)
			if how > 2 {
				how = 3 + how%2 // Next and Prev mostly
			}
			walk(t, c, m, how, r(2*wide+4)-2)
		}
	}
}

func TestTexts(t *testing.T) { // P6.1, P6.2, P6.3: texts stand in the order of bytes
	want := []string{"", "\x00", "\x00\x00", "\x00\xff", "\x01", "A", "B", "a", "a\x00", "a\x01", "aa", "ab", "b", "\x7f", "\x80", "é", "\xff", "\xff\x00", "\xff\xff", strings.Repeat("\xff", api.MaxKey)}
	for turn := range 6 {
		runs := make([][]Item[string, int], 1+turn)
		for i, k := range want {
			n := i * 7 % len(runs)
			runs[n] = append(runs[n], Item[string, int]{k, i})
		}
		runs = append(runs, []Item[string, int]{{"a", -1}, {"b", -2}, {"c", -3}})
		var near []string
		for _, k := range want {
			near = append(near, k, k+"\x00", k+"a", k+"\xff")
		}
		asModels(t, runs, near...)
		l := merged(t, runs[:1+turn]...)
		for i, k := range want {
			if len(l) != len(want) || l[i].Key != k || l[i].Value != i {
				t.Fatalf("Merge: %v", l)
			}
		}
	}
	if e := Check([]Item[string, int]{{"a", 1}, {"a\x00", 2}, {"\xff", 3}}); e != api.OK {
		t.Errorf("Check: %d", e)
	}
	for _, ks := range [][2]string{{"a", "a"}, {"", ""}, {"a", ""}, {"aa", "a"}, {"\xff", "a"}, {"a", "A"}} {
		if e := Check([]Item[string, int]{{Key: ks[0]}, {Key: ks[1]}}); e != api.ErrOrder {
			t.Errorf("Check(%q): %d", ks, e)
		}
	}
}

type point struct {
	name string
	x, y int
}

func TestStructsAsValues(t *testing.T) { // P6.1, P6.2, P6.3
	type item = Item[string, point]
	a, b := []item{{"b", point{"b", 1, 2}}, {"d", point{}}}, []item{{"a", point{"a", 3, 4}}, {"b", point{"b", 5, 6}}}
	asModels(t, [][]item{a, b}, "", "a", "aa", "b", "c", "d", "e")
	if l := merged(t, a, b); len(l) != 3 || l[1].Value != (point{"b", 1, 2}) || l[2].Value != (point{}) {
		t.Errorf("Merge: %v", l)
	}
	c := made(t, a, b)
	c.Seek("b")
	x := c.Item()
	x.Key, x.Value.x = "z", 9
	standsAs(t, "an item that was told and changed", c, true, &item{"b", point{"b", 1, 2}})
	if c.Seek("e") || c.Item().Value != (point{}) {
		t.Errorf("Item at none: %v", c.Item())
	}
}

func TestValuesOfAnyTypes(t *testing.T) { // P6.1: values need not be such as can be compared
	type item = Item[int, []int]
	l := merged(t, []item{{2, []int{2}}, {3, nil}}, []item{{1, []int{1, 1}}, {2, []int{7}}})
	if len(l) != 3 || !slices.Equal(l[0].Value, []int{1, 1}) || !slices.Equal(l[1].Value, []int{2}) || l[2].Value != nil {
		t.Errorf("Merge: %v", l)
	}
	type call = Item[int, func() int]
	c := made(t, []call{{1, func() int { return 5 }}}, []call{{1, nil}, {2, nil}})
	if !c.First() || c.Item().Value() != 5 || !c.Next() || c.Item().Value != nil || c.Next() || c.Item().Value != nil {
		t.Error("a cursor over functions")
	}
}

func TestFloats(t *testing.T) { // P6.1, P6.2, P6.3
	type item = Item[float64, int]
	inf, less := math.Inf(1), math.Inf(-1)
	a := []item{{less, 1}, {-1.5, 2}, {0, 3}, {math.MaxFloat64, 4}}
	b := []item{{-math.MaxFloat64, 5}, {-1.5, 6}, {math.SmallestNonzeroFloat64, 7}, {inf, 8}}
	asModels(t, [][]item{a, b}, less, -2, -1.5, -1, 0, 1, inf, math.NaN())
	zero := math.Copysign(0, -1)
	if e := Check([]item{{zero, 1}, {0, 2}}); e != api.ErrOrder {
		t.Errorf("Check of -0 and 0: %d", e)
	}
	l := merged(t, []item{{zero, 1}}, []item{{0, 2}})
	if len(l) != 1 || l[0].Value != 1 || !math.Signbit(l[0].Key) {
		t.Errorf("Merge of -0 and 0: %v", l)
	}
}

func TestFloatsThatAreNoNumbers(t *testing.T) { // P6.1, P6.2, P6.3: in the order of package cmp, which has them below all
	type item = Item[float64, int]
	nan := math.NaN()
	one, numbers := []item{{nan, 1}}, []item{{-1, 2}, {1, 3}}
	asModels(t, [][]item{one, numbers}, nan, -2, -1, 0, 1, 2)
	asModels(t, [][]item{numbers, one}, nan, -2, -1, 0, 1, 2)
	asModels(t, [][]item{one, {{nan, 4}, {0, 5}}, numbers}, nan, -2, -1, 0, 1, 2)
	if e := Check([]item{{nan, 1}, {nan, 2}}); e != api.ErrOrder {
		t.Errorf("Check of two: %d", e)
	}
	if e := Check([]item{{1, 1}, {nan, 2}}); e != api.ErrOrder {
		t.Errorf("Check of one behind a number: %d", e)
	}
	if l := merged(t, numbers, one); Check(l) != api.OK || len(l) != 3 {
		t.Errorf("Merge tells no run: %v", l)
	}
}

type grade int16

func keysOfAType[K cmp.Ordered](t *testing.T, ks ...K) {
	t.Helper()
	runs := make([][]Item[K, int], 3)
	for i, k := range slices.Sorted(slices.Values(ks)) {
		runs[i%2] = append(runs[i%2], Item[K, int]{k, i})
		runs[2] = append(runs[2], Item[K, int]{k, -i})
	}
	asModels(t, runs, ks...)
}

func TestKeysOfAllSorts(t *testing.T) { // P6.1, P6.2, P6.3
	keysOfAType[int8](t, 5, -128, 127, 0, -1)
	keysOfAType[int16](t, 5, math.MinInt16, math.MaxInt16, 0)
	keysOfAType[int32](t, 5, math.MinInt32, math.MaxInt32, 0)
	keysOfAType[int64](t, 5, math.MinInt64, math.MaxInt64, 0)
	keysOfAType[uint8](t, 5, 255, 0, 127, 128)
	keysOfAType[uint](t, 5, math.MaxUint, 0)
	keysOfAType[uint64](t, 5, math.MaxUint64, 1<<63, 1<<63-1, 0)
	keysOfAType[uintptr](t, 5, 0, 1)
	keysOfAType[float32](t, 5, -5, 0.5, 0, math.MaxFloat32)
	keysOfAType[grade](t, 5, -5, 0, 3)
}

// fenced: three runs as pieces of a greater list, with spare room behind them, and a copy of all of it.
func fenced() (all, copied []pair, runs [][]pair) {
	all = []pair{at(1, "a"), at(5, "b"), at(90, "x"), at(91, "x"), at(0, "c"), at(1, "d"), at(7, "e"), at(92, "x"), at(3, "f"), at(93, "x"), at(94, "x")}
	return all, slices.Clone(all), [][]pair{all[:2], all[4:7], all[8:9]}
}

func TestRunsAreNotChanged(t *testing.T) { // P6.4
	all, copied, runs := fenced()
	lists := slices.Clone(runs)
	held := func(call string) {
		t.Helper()
		if !slices.Equal(all, copied) {
			t.Fatalf("behind %s: %v", call, all)
		}
		for i := range runs {
			if len(runs[i]) != len(lists[i]) || &runs[i][0] != &lists[i][0] {
				t.Fatalf("behind %s the list of runs is another one", call)
			}
		}
	}
	for _, x := range runs {
		Check(x)
		held("Check")
		for k := range 9 {
			Find(x, k)
			held("Find")
		}
	}
	merged(t, runs...)
	held("Merge")
	merged(t, runs[0])
	held("Merge of one")
	c := made(t, runs...)
	held("New")
	m, r := newModelCursor(runs), random(4)
	for range 500 {
		walk(t, c, m, r(5), r(10)-1)
		held("a move")
	}
	Merge(all)
	New(all)
	held("what was refused")
}

func TestMergeTellsNewMemory(t *testing.T) { // P6.4 and the rules that hold everywhere
	for n := range 4 {
		all, copied, runs := fenced()
		runs = runs[:n]
		first := merged(t, runs...)
		second := merged(t, runs...)
		want := slices.Clone(first)
		first = append(first, at(200, "z"))
		first = first[:cap(first)]
		for i := range first {
			first[i] = at(100, "spoilt")
		}
		if !slices.Equal(all, copied) {
			t.Errorf("an answer shares memory with a run: %v", all)
		}
		if !slices.Equal(second, want) {
			t.Errorf("two answers share memory: %v", second)
		}
		room := second[len(second):cap(second)]
		for i := range room {
			room[i] = at(100, "spoilt")
		}
		for i := range all {
			all[i] = at(100, "spoilt")
		}
		if !slices.Equal(second, want) {
			t.Errorf("an answer changes with a run: %v", second)
		}
	}
}

func TestMergeBesideEmptyRunsTellsNewMemory(t *testing.T) { // P6.4 and the rules that hold everywhere
	a := run("a", 1, 2)
	for _, runs := range [][][]pair{{a}, {a, nil}, {nil, a}, {nil, a, nil}, {a, a}} {
		l := merged(t, runs...)
		l[0] = at(9, "spoilt")
		if !slices.Equal(a, run("a", 1, 2)) {
			t.Fatalf("Merge(%v) shares memory with a run: %v", runs, a)
		}
	}
}

func TestListOfRunsIsNotKept(t *testing.T) { // the rules that hold everywhere
	runs := [][]pair{run("a", 1), run("b", 2)}
	c := made(t, runs...)
	runs[0], runs[1] = run("c", 5), nil
	standsAs(t, "First", c, c.First(), &pair{1, "a1"})
	standsAs(t, "Next", c, c.Next(), &pair{2, "b2"})
	standsAs(t, "Next", c, c.Next(), nil)
}

func TestCursorsAreOfTheirOwn(t *testing.T) { // P6.2, P6.3
	runs := [][]pair{run("a", 1, 3, 5), run("b", 2, 3, 4)}
	c, d := made(t, runs...), made(t, runs...)
	m, n, r := newModelCursor(runs), newModelCursor(runs), random(8)
	for range 300 {
		walk(t, c, m, r(5), r(8)-1)
		if d.Valid() != n.valid() || d.Item() != n.item() {
			t.Fatalf("another cursor went to %v", d.Item())
		}
		walk(t, d, n, r(5), r(8)-1)
		if c.Valid() != m.valid() || c.Item() != m.item() {
			t.Fatalf("another cursor went to %v", c.Item())
		}
	}
}

func TestManyItems(t *testing.T) { // P6.1, P6.3
	const many, runsOf = 1 << 16, 10
	runs, r := make([][]Item[int, int], runsOf), random(6)
	for k := range many {
		first := r(runsOf)
		for n := first; n < runsOf; n += 1 + r(runsOf) {
			runs[n] = append(runs[n], Item[int, int]{k, first + n*runsOf})
		}
	}
	l := merged(t, runs...)
	if len(l) != many {
		t.Fatalf("%d items", len(l))
	}
	c := made(t, runs...)
	c.First()
	for k, x := range l {
		if x.Key != k || x.Value%runsOf != x.Value/runsOf {
			t.Fatalf("item %d: %v", k, x)
		}
		if c.Item() != x {
			t.Fatalf("the cursor's item %d: %v, not %v", k, c.Item(), x)
		}
		if c.Next() != (k < many-1) {
			t.Fatalf("Next behind %d", k)
		}
	}
}

func TestManyRuns(t *testing.T) { // P6.1, P6.3
	const many = 1 << 12
	var runs [][]Item[int, int]
	for i := range many { // each has a key of its own, from the greatest on, and one that all have
		runs = append(runs, []Item[int, int]{{many - i, i}, {many + 1, i}})
	}
	l := merged(t, runs...)
	if len(l) != many+1 || l[many] != (Item[int, int]{many + 1, 0}) {
		t.Fatalf("%d items", len(l))
	}
	for i, x := range l[:many] {
		if x != (Item[int, int]{i + 1, many - 1 - i}) {
			t.Fatalf("item %d: %v", i, x)
		}
	}
	c := made(t, runs...)
	for i, told := many, c.Last(); i >= 0; i, told = i-1, c.Prev() {
		if !told || c.Item() != l[i] {
			t.Fatalf("the cursor's item %d: %v", i, c.Item())
		}
	}
	if c.Valid() {
		t.Error("an item ahead of the first one")
	}
}
