package skip

import (
	"cmp"
	"math"
	"slices"
	"strconv"
	"strings"
	"testing"

	"tithebarn/api"
)

// model: a list just as the document words it, as entries in no order, of which each call goes through all.
type model[K cmp.Ordered, V comparable] struct {
	entries []entry[K, V]
}

type entry[K cmp.Ordered, V comparable] struct {
	key    K
	value  V
	height int
}

func (m *model[K, V]) put(k K, v V, height int) (bool, api.Errno) {
	if height < 1 || height > 12 {
		return false, 70
	}
	for i := range m.entries {
		if m.entries[i].key == k {
			m.entries[i].value = v
			return false, 0
		}
	}
	m.entries = append(m.entries, entry[K, V]{k, v, height})
	return true, 0
}

// least: of the entries that are asked for, the one with the least key.
func (m *model[K, V]) least(asked func(K) bool) (K, V, bool) {
	var best entry[K, V]
	found := false
	for _, e := range m.entries {
		if asked(e.key) && (!found || e.key < best.key) {
			best, found = e, true
		}
	}
	return best.key, best.value, found
}

func (m *model[K, V]) greatest(asked func(K) bool) (K, V, bool) {
	var best entry[K, V]
	found := false
	for _, e := range m.entries {
		if asked(e.key) && (!found || e.key > best.key) {
			best, found = e, true
		}
	}
	return best.key, best.value, found
}

func (m *model[K, V]) get(k K) (V, int, bool) {
	for _, e := range m.entries {
		if e.key == k {
			return e.value, e.height, true
		}
	}
	var none V
	return none, 0, false
}

func (m *model[K, V]) keys() []K {
	var ks []K
	for _, e := range m.entries {
		ks = append(ks, e.key)
	}
	slices.Sort(ks)
	return ks
}

// both puts into a list and its model, and holds what they answer against each other.
func both[K cmp.Ordered, V comparable](t *testing.T, l *List[K, V], m *model[K, V], k K, v V, height int) {
	t.Helper()
	got, e := l.Put(k, v, height)
	want, f := m.put(k, v, height)
	if got != want || e != f {
		t.Fatalf("Put(%v, %v, %d): %t, %d, not %t, %d", k, v, height, got, e, want, f)
	}
}

// sameAs holds all that l tells, of each key that is asked for too, against the model.
func sameAs[K cmp.Ordered, V comparable](t *testing.T, l *List[K, V], m *model[K, V], asked ...K) {
	t.Helper()
	if l.Len() != len(m.entries) || !slices.Equal(l.Keys(), m.keys()) {
		t.Fatalf("%d keys: %v, not %d: %v", l.Len(), l.Keys(), len(m.entries), m.keys())
	}
	all := func(K) bool { return true }
	same(t, "First")(l.First())(m.least(all))
	same(t, "Last")(l.Last())(m.greatest(all))
	for _, k := range asked {
		same(t, "Ceil", k)(l.Ceil(k))(m.least(func(o K) bool { return !(o < k) }))
		same(t, "Floor", k)(l.Floor(k))(m.greatest(func(o K) bool { return !(o > k) }))
		same(t, "Next", k)(l.Next(k))(m.least(func(o K) bool { return o > k }))
		same(t, "Prev", k)(l.Prev(k))(m.greatest(func(o K) bool { return o < k }))
		v, ok := l.Get(k)
		want, height, there := m.get(k)
		if v != want || ok != there {
			t.Fatalf("Get(%v): %v, %t, not %v, %t", k, v, ok, want, there)
		}
		if l.Height(k) != height {
			t.Fatalf("Height(%v): %d, not %d", k, l.Height(k), height)
		}
	}
	standsRight(t, l, m)
}

// same takes what a call told, and then what it must tell.
func same(t *testing.T, call string, asked ...any) func(any, any, bool) func(any, any, bool) {
	return func(k, v any, ok bool) func(any, any, bool) {
		return func(wantK, wantV any, want bool) {
			t.Helper()
			if k != wantK || v != wantV || ok != want {
				t.Fatalf("%s(%v): %v, %v, %t, not %v, %v, %t", call, asked, k, v, ok, wantK, wantV, want)
			}
		}
	}
}

// standsRight: each floor has the keys that are so high, rising, and no other.
func standsRight[K cmp.Ordered, V comparable](t *testing.T, l *List[K, V], m *model[K, V]) {
	t.Helper()
	for floor := range l.head.next {
		var want, got []K
		for _, e := range m.entries {
			if e.height > floor {
				want = append(want, e.key)
			}
		}
		slices.Sort(want)
		for x := l.head.next[floor]; x != nil; x = x.next[floor] {
			got = append(got, x.key)
		}
		if !slices.Equal(got, want) {
			t.Fatalf("floor %d: %v, not %v", floor, got, want)
		}
	}
}

// is holds a key, a value and a bool that a call told against those that it must tell.
func is[K cmp.Ordered, V comparable](t *testing.T, call string, wantK K, wantV V, want bool) func(K, V, bool) {
	return func(k K, v V, ok bool) {
		t.Helper()
		if k != wantK || v != wantV || ok != want {
			t.Errorf("%s: %v, %v, %t, not %v, %v, %t", call, k, v, ok, wantK, wantV, want)
		}
	}
}

// fresh puts what must be new and right.
func fresh[K cmp.Ordered, V any](t *testing.T, l *List[K, V], k K, v V, height int) {
	t.Helper()
	if isNew, e := l.Put(k, v, height); !isNew || e != api.OK {
		t.Fatalf("Put(%v, %v, %d): %t, %d", k, v, height, isNew, e)
	}
}

// rightHeights: all of them. wrongHeights: those that the limits refuse, some of them right in their lowest bits.
func rightHeights() []int { return []int{1, 2, 3, 4, 5, 6, 7, 8, 9, 10, 11, 12} }

func wrongHeights() []int {
	return []int{0, -1, -2, -12, math.MinInt32, math.MinInt + 1, math.MinInt, 13, 14, 24, 256 + 1, 1<<16 + 1, 1<<32 + 1, 1<<40 + 12, math.MaxInt}
}

// random: numbers that are the same at each run.
func random(seed uint64) func(n int) int {
	return func(n int) int {
		seed = seed*6364136223846793005 + 1442695040888963407
		return int((seed >> 33) % uint64(n))
	}
}

func TestExamples(t *testing.T) { // P5.1, P5.2, P5.3
	l := New[string, int]()
	fresh(t, l, "b", 1, 1)
	fresh(t, l, "a", 2, 1)
	if ks := l.Keys(); !slices.Equal(ks, []string{"a", "b"}) {
		t.Errorf("Keys: %v", ks)
	}
	is(t, "Ceil(aa)", "b", 1, true)(l.Ceil("aa"))
	is(t, "Prev(a)", "", 0, false)(l.Prev("a"))
	if h := Height(15); h != 3 {
		t.Errorf("Height(15): %d", h)
	}
}

func emptyList[K cmp.Ordered, V comparable](t *testing.T, asked ...K) {
	t.Helper()
	l := New[K, V]()
	if l == nil {
		t.Fatal("New: nil")
	}
	var k K
	var v V
	if l.Len() != 0 || len(l.Keys()) != 0 {
		t.Errorf("an empty list: %d keys, %v", l.Len(), l.Keys())
	}
	is(t, "First", k, v, false)(l.First())
	is(t, "Last", k, v, false)(l.Last())
	for _, a := range asked {
		is(t, "Ceil", k, v, false)(l.Ceil(a))
		is(t, "Floor", k, v, false)(l.Floor(a))
		is(t, "Next", k, v, false)(l.Next(a))
		is(t, "Prev", k, v, false)(l.Prev(a))
		if got, ok := l.Get(a); got != v || ok {
			t.Errorf("Get(%v): %v, %t", a, got, ok)
		}
		if h := l.Height(a); h != 0 {
			t.Errorf("Height(%v): %d", a, h)
		}
	}
	sameAs(t, l, &model[K, V]{}, asked...)
}

func TestEmptyList(t *testing.T) { // P5.1, P5.2, P5.3
	emptyList[int, int](t, 0, 1, -1, math.MinInt, math.MaxInt)
	emptyList[int, string](t, 0, 1, -1)
	emptyList[string, int](t, "", "a", "\x00", "\xff", strings.Repeat("a", 1000))
	emptyList[string, struct{ a, b int }](t, "", "a")
	emptyList[float64, [2]string](t, 0, 1, -1, math.Inf(1), math.Inf(-1))
	emptyList[uint8, bool](t, 0, 1, 255)
}

func TestOneKey(t *testing.T) { // P5.1, P5.2, P5.3
	for _, height := range rightHeights() {
		l := New[int, string]()
		fresh(t, l, 7, "seven", height)
		if l.Len() != 1 || !slices.Equal(l.Keys(), []int{7}) {
			t.Errorf("one key: %d, %v", l.Len(), l.Keys())
		}
		if v, ok := l.Get(7); v != "seven" || !ok || l.Height(7) != height {
			t.Errorf("Get(7): %q, %t; Height: %d, not %d", v, ok, l.Height(7), height)
		}
		is(t, "First", 7, "seven", true)(l.First())
		is(t, "Last", 7, "seven", true)(l.Last())
		is(t, "Ceil(6)", 7, "seven", true)(l.Ceil(6))
		is(t, "Ceil(7)", 7, "seven", true)(l.Ceil(7))
		is(t, "Ceil(8)", 0, "", false)(l.Ceil(8))
		is(t, "Floor(6)", 0, "", false)(l.Floor(6))
		is(t, "Floor(7)", 7, "seven", true)(l.Floor(7))
		is(t, "Floor(8)", 7, "seven", true)(l.Floor(8))
		is(t, "Next(6)", 7, "seven", true)(l.Next(6))
		is(t, "Next(7)", 0, "", false)(l.Next(7))
		is(t, "Next(8)", 0, "", false)(l.Next(8))
		is(t, "Prev(6)", 0, "", false)(l.Prev(6))
		is(t, "Prev(7)", 0, "", false)(l.Prev(7))
		is(t, "Prev(8)", 7, "seven", true)(l.Prev(8))
		for _, k := range []int{6, 8, 0, -7, math.MinInt, math.MaxInt} {
			if v, ok := l.Get(k); v != "" || ok || l.Height(k) != 0 {
				t.Errorf("Get(%d): %q, %t; Height: %d", k, v, ok, l.Height(k))
			}
		}
	}
}

func TestPutMindsHeight(t *testing.T) { // P5.1, P5.3
	l, m := New[string, int](), &model[string, int]{}
	refused := func() {
		t.Helper()
		for _, height := range wrongHeights() {
			for i, k := range []string{"", "a", "c", "f", "m", "z"} {
				if isNew, e := l.Put(k, 100+i, height); isNew || e != api.ErrRange {
					t.Fatalf("Put(%q, %d, %d): %t, %d", k, 100+i, height, isNew, e)
				}
				sameAs(t, l, m, "", "a", "b", "c", "f", "m", "z", "zz")
			}
		}
	}
	refused()
	both(t, l, m, "m", 1, 1)
	refused()
	both(t, l, m, "a", 2, api.MaxHeight)
	both(t, l, m, "f", 3, 5)
	refused()
	both(t, l, m, "c", 4, 2)
	sameAs(t, l, m, "", "a", "b", "c", "f", "m", "z")
}

func TestPutTakesAllRightHeights(t *testing.T) { // P5.1, P5.3
	l, m := New[int, int](), &model[int, int]{}
	for _, height := range rightHeights() {
		both(t, l, m, 10*height, height, height)
		both(t, l, m, -10*height, -height, height)
		if l.Height(10*height) != height || l.Height(-10*height) != height {
			t.Errorf("height %d: %d, %d", height, l.Height(10*height), l.Height(-10*height))
		}
	}
	sameAs(t, l, m, m.keys()...)
	if l.Height(5) != 0 || l.Height(130) != 0 {
		t.Errorf("keys that are not there have heights: %d, %d", l.Height(5), l.Height(130))
	}
}

func TestPutAgain(t *testing.T) { // P5.1, P5.3
	for _, first := range rightHeights() {
		for _, second := range rightHeights() {
			l, m := New[string, string](), &model[string, string]{}
			for i, k := range []string{"d", "b", "f"} {
				both(t, l, m, k, "of "+k, 1+i)
			}
			both(t, l, m, "c", "one", first)
			if isNew, e := l.Put("c", "two", second); isNew || e != api.OK {
				t.Fatalf("Put(c) again: %t, %d", isNew, e)
			}
			m.put("c", "two", second)
			if v, ok := l.Get("c"); v != "two" || !ok || l.Height("c") != first || l.Len() != 4 {
				t.Fatalf("Put(c) again: %q, %t, height %d, %d keys", v, ok, l.Height("c"), l.Len())
			}
			is(t, "Ceil(bb)", "c", "two", true)(l.Ceil("bb"))
			is(t, "Floor(cc)", "c", "two", true)(l.Floor("cc"))
			sameAs(t, l, m, "a", "b", "bb", "c", "cc", "d", "e", "f", "g")
		}
	}
}

func TestPutAgainAtTheEnds(t *testing.T) { // P5.1, P5.2
	l := New[int, int]()
	for i, k := range []int{2, 1, 3} {
		fresh(t, l, k, 10*k, 1+4*i)
	}
	for _, k := range []int{1, 2, 3} {
		if isNew, e := l.Put(k, 11*k, 12); isNew || e != api.OK {
			t.Errorf("Put(%d) again: %t, %d", k, isNew, e)
		}
	}
	is(t, "First", 1, 11, true)(l.First())
	is(t, "Last", 3, 33, true)(l.Last())
	is(t, "Next(1)", 2, 22, true)(l.Next(1))
	is(t, "Prev(3)", 2, 22, true)(l.Prev(3))
	if l.Height(1) != 5 || l.Height(2) != 1 || l.Height(3) != 9 || l.Len() != 3 {
		t.Errorf("heights %d, %d, %d of %d keys", l.Height(1), l.Height(2), l.Height(3), l.Len())
	}
}

func TestAroundKeys(t *testing.T) { // P5.2
	l := New[int, string]()
	for i, k := range []int{30, 10, 40, 20} {
		fresh(t, l, k, "v"+strconv.Itoa(k), []int{1, 3, 2, 12}[i])
	}
	cases := []struct{ k, ceil, floor, next, prev int }{ // 0: there is none
		{math.MinInt, 10, 0, 10, 0},
		{-10, 10, 0, 10, 0},
		{9, 10, 0, 10, 0},
		{10, 10, 10, 20, 0},
		{11, 20, 10, 20, 10},
		{19, 20, 10, 20, 10},
		{20, 20, 20, 30, 10},
		{25, 30, 20, 30, 20},
		{30, 30, 30, 40, 20},
		{39, 40, 30, 40, 30},
		{40, 40, 40, 0, 30},
		{41, 0, 40, 0, 40},
		{math.MaxInt, 0, 40, 0, 40},
	}
	value := func(k int) string {
		if k == 0 {
			return ""
		}
		return "v" + strconv.Itoa(k)
	}
	for _, c := range cases {
		of := "(" + strconv.Itoa(c.k) + ")"
		is(t, "Ceil"+of, c.ceil, value(c.ceil), c.ceil != 0)(l.Ceil(c.k))
		is(t, "Floor"+of, c.floor, value(c.floor), c.floor != 0)(l.Floor(c.k))
		is(t, "Next"+of, c.next, value(c.next), c.next != 0)(l.Next(c.k))
		is(t, "Prev"+of, c.prev, value(c.prev), c.prev != 0)(l.Prev(c.k))
	}
	is(t, "First", 10, "v10", true)(l.First())
	is(t, "Last", 40, "v40", true)(l.Last())
}

func TestNextAndPrevGoThroughAll(t *testing.T) { // P5.2, P5.3
	l, r := New[int, int](), random(3)
	for i := range 500 {
		l.Put(r(1000)-500, i, 1+i%12)
	}
	var rising, falling []int
	for k, _, ok := l.First(); ok && len(rising) < 1000; k, _, ok = l.Next(k) {
		rising = append(rising, k)
	}
	for k, _, ok := l.Last(); ok && len(falling) < 1000; k, _, ok = l.Prev(k) {
		falling = append(falling, k)
	}
	slices.Reverse(falling)
	if !slices.Equal(rising, l.Keys()) || !slices.Equal(falling, l.Keys()) || !slices.IsSorted(rising) {
		t.Errorf("%v, %v, %v", rising, falling, l.Keys())
	}
}

func TestZeroKeysAndValues(t *testing.T) { // P5.1, P5.2
	l := New[int, int]()
	fresh(t, l, 0, 0, 1)
	if v, ok := l.Get(0); v != 0 || !ok || l.Height(0) != 1 || l.Len() != 1 {
		t.Errorf("Get(0): %d, %t", v, ok)
	}
	is(t, "First", 0, 0, true)(l.First())
	is(t, "Last", 0, 0, true)(l.Last())
	is(t, "Ceil(-1)", 0, 0, true)(l.Ceil(-1))
	is(t, "Ceil(0)", 0, 0, true)(l.Ceil(0))
	is(t, "Ceil(1)", 0, 0, false)(l.Ceil(1))
	is(t, "Floor(-1)", 0, 0, false)(l.Floor(-1))
	is(t, "Floor(0)", 0, 0, true)(l.Floor(0))
	is(t, "Next(-1)", 0, 0, true)(l.Next(-1))
	is(t, "Next(0)", 0, 0, false)(l.Next(0))
	is(t, "Prev(0)", 0, 0, false)(l.Prev(0))
	is(t, "Prev(1)", 0, 0, true)(l.Prev(1))
	if isNew, e := l.Put(0, 5, 2); isNew || e != api.OK {
		t.Errorf("Put(0) again: %t, %d", isNew, e)
	}
	if isNew, e := l.Put(0, 0, 2); isNew || e != api.OK {
		t.Errorf("Put(0) again: %t, %d", isNew, e)
	}
	is(t, "First", 0, 0, true)(l.First())
}

func TestEmptyTexts(t *testing.T) { // P5.1, P5.2
	l, m := New[string, string](), &model[string, string]{}
	both(t, l, m, "a", "", 3)
	if isNew, _ := l.Put("", "", 1); !isNew {
		t.Error("the empty key is there before it was put")
	}
	m.put("", "", 1)
	sameAs(t, l, m, "", "\x00", "a", "b")
	is(t, "First", "", "", true)(l.First())
	is(t, "Prev(a)", "", "", true)(l.Prev("a"))
	is(t, "Prev of the empty key", "", "", false)(l.Prev(""))
	is(t, "Next of the empty key", "a", "", true)(l.Next(""))
	if ks := l.Keys(); !slices.Equal(ks, []string{"", "a"}) {
		t.Errorf("Keys: %q", ks)
	}
}

func TestNothingIsZero(t *testing.T) { // P5.1, P5.2: no key or value of another one beside a false
	l := New[int, string]()
	fresh(t, l, 5, "five", 1)
	fresh(t, l, 9, "nine", 12)
	for _, k := range []int{4, 6, 8, 10} {
		if v, ok := l.Get(k); v != "" || ok {
			t.Errorf("Get(%d): %q, %t", k, v, ok)
		}
	}
	is(t, "Ceil(10)", 0, "", false)(l.Ceil(10))
	is(t, "Next(9)", 0, "", false)(l.Next(9))
	is(t, "Floor(4)", 0, "", false)(l.Floor(4))
	is(t, "Prev(5)", 0, "", false)(l.Prev(5))
}

func TestLeastAndGreatestInts(t *testing.T) { // P5.1, P5.2
	for _, height := range rightHeights() {
		l, m := New[int, int](), &model[int, int]{}
		asked := []int{math.MinInt, math.MinInt + 1, -1, 0, 1, math.MaxInt - 1, math.MaxInt}
		both(t, l, m, math.MaxInt, 1, height)
		sameAs(t, l, m, asked...)
		both(t, l, m, math.MinInt, 2, 13-height)
		sameAs(t, l, m, asked...)
		both(t, l, m, 0, 3, 1)
		sameAs(t, l, m, asked...)
		is(t, "First", math.MinInt, 2, true)(l.First())
		is(t, "Last", math.MaxInt, 1, true)(l.Last())
		is(t, "Next(greatest)", 0, 0, false)(l.Next(math.MaxInt))
		is(t, "Prev(least)", 0, 0, false)(l.Prev(math.MinInt))
		is(t, "Next(least)", 0, 3, true)(l.Next(math.MinInt))
		is(t, "Prev(greatest)", 0, 3, true)(l.Prev(math.MaxInt))
	}
}

func TestHeightOfDraws(t *testing.T) { // P5.3
	cases := []struct{ draw, height int }{
		{0, 1}, {1, 1}, {2, 1}, {3, 2}, {4, 1}, {5, 1}, {6, 1}, {7, 2}, {8, 1}, {11, 2}, {12, 1}, {13, 1}, {14, 1}, {15, 3},
		{16, 1}, {31, 3}, {47, 3}, {48, 1}, {51, 2}, {60, 1}, {62, 1}, {63, 4}, {255, 5}, {1023, 6}, {1<<20 - 1, 11}, {1<<21 - 1, 11},
		{1<<22 - 1, 12}, {1<<22 - 2, 1}, {1<<22 - 4, 1}, {1<<22 - 5, 2}, {1<<22 - 1 - 1<<20, 11}, {1<<22 - 1 - 1<<21, 11},
		{1<<23 - 1, 12}, {1<<24 - 1, 12}, {1<<32 - 1, 12}, {1<<32 + 1<<22 - 1, 12}, {1<<32 + 3, 2}, {1 << 62, 1},
		{math.MaxInt, 12}, {math.MaxInt - 1, 1}, {-1, 12}, {-2, 1}, {-3, 1}, {-4, 1}, {-5, 2}, {-13, 2}, {-16, 1}, {-17, 3},
		{-1 << 20, 1}, {-1<<20 - 1, 11}, {-1<<21 - 1, 11}, {-1<<22 - 1, 12}, {math.MinInt, 1}, {math.MinInt + 3, 2}, {math.MinInt + 1<<22 - 1, 12},
	}
	for _, c := range cases {
		if h := Height(c.draw); h != c.height {
			t.Errorf("Height(%d): %d, not %d", c.draw, h, c.height)
		}
	}
}

// modelHeight: the draw's bits as a text, the lowest first, and of it so many pairs as are both set from its beginning on.
func modelHeight(draw int) int {
	var text strings.Builder
	for i := range 64 {
		text.WriteByte('0' + byte(uint64(draw)>>i&1))
	}
	rest, height := text.String(), 1
	for strings.HasPrefix(rest, "11") {
		rest = rest[2:]
		height++
	}
	if height > 12 {
		return 12
	}
	return height
}

func TestHeightOfDrawsIsTheModels(t *testing.T) { // P5.3
	held := func(draw int) {
		if Height(draw) != modelHeight(draw) {
			t.Fatalf("Height(%d): %d, not %d", draw, Height(draw), modelHeight(draw))
		}
	}
	for draw := range 1 << 16 {
		held(draw)
		held(-draw)
		held(draw<<6 | 63)
		held(draw<<12 | 4095)
	}
	for set := range 65 { // so many of the lowest bits are set, and all but one of them
		draw := uint64(1)<<set - 1
		held(int(draw))
		for i := range set {
			held(int(draw &^ (1 << i)))
		}
	}
	r := random(5)
	for range 10000 {
		held(r(1<<31) | r(1<<31)<<31)
	}
}

func TestTexts(t *testing.T) { // P5.1, P5.2: texts stand in the order of bytes
	want := []string{"", "\x00", "\x00\x00", "\x00\xff", "\x01", "A", "B", "a", "a\x00", "a\x01", "aa", "ab", "b", "\x7f", "\x80", "é", "\xff", "\xff\x00", "\xff\xff", strings.Repeat("\xff", api.MaxKey)}
	for turn := range 12 {
		l, m := New[string, int](), &model[string, int]{}
		for i := range want {
			at := i * 7 % len(want)
			both(t, l, m, want[at], at, 1+(i+turn)%12)
		}
		if ks := l.Keys(); !slices.Equal(ks, want) {
			t.Fatalf("Keys: %q", ks)
		}
		var near []string
		for _, k := range want {
			near = append(near, k, k+"\x00", k+"a", k+"\xff")
		}
		sameAs(t, l, m, near...)
	}
}

type point struct {
	name string
	x, y int
}

func TestStructsAsValues(t *testing.T) { // P5.1, P5.2
	l, m := New[int, point](), &model[int, point]{}
	for i, k := range []int{5, 1, 9, 3, 5, 1, 7} {
		both(t, l, m, k, point{strconv.Itoa(k), k, i}, 1+2*i%12)
		sameAs(t, l, m, 0, 1, 2, 3, 4, 5, 6, 7, 8, 9, 10)
	}
	is(t, "Ceil(4)", 5, point{"5", 5, 4}, true)(l.Ceil(4))
	is(t, "Next(9)", 0, point{}, false)(l.Next(9))
	if v, ok := l.Get(2); v != (point{}) || ok {
		t.Errorf("Get(2): %v, %t", v, ok)
	}
}

func TestValuesAreOfTheirOwn(t *testing.T) { // P5.1: a value that is changed elsewhere stays what it was
	l := New[string, point]()
	p := point{"p", 1, 2}
	fresh(t, l, "k", p, 1)
	p.x = 5
	got, _ := l.Get("k")
	if got != (point{"p", 1, 2}) {
		t.Errorf("Get: %v", got)
	}
	got.y = 7
	if _, again, _ := l.First(); again != (point{"p", 1, 2}) {
		t.Errorf("First: %v", again)
	}
}

func TestFloats(t *testing.T) { // P5.1, P5.2
	l, m := New[float64, string](), &model[float64, string]{}
	ks := []float64{1.5, math.Inf(-1), 0, math.MaxFloat64, -1.5, math.Inf(1), math.SmallestNonzeroFloat64, -math.MaxFloat64}
	for i, k := range ks {
		both(t, l, m, k, strconv.Itoa(i), 1+i)
	}
	sameAs(t, l, m, append(ks, -1, 1, 2, -2, 1e300, -1e300)...)
	if isNew, e := l.Put(math.Copysign(0, -1), "zero", 1); isNew || e != api.OK || l.Len() != len(ks) {
		t.Errorf("Put(-0): %t, %d: it is equal to 0", isNew, e)
	}
	if v, ok := l.Get(0); v != "zero" || !ok || l.Height(0) != 3 {
		t.Errorf("Get(0): %q, %t", v, ok)
	}
}

type grade int16

func allKeys[K cmp.Ordered](t *testing.T, ks ...K) {
	t.Helper()
	l, m := New[K, int](), &model[K, int]{}
	for i, k := range ks {
		both(t, l, m, k, i, 1+i*5%12)
	}
	for i, k := range ks {
		both(t, l, m, k, -i, 1+i*7%12)
	}
	sameAs(t, l, m, ks...)
}

func TestKeysOfAllSorts(t *testing.T) { // P5.1, P5.2
	allKeys[int8](t, 5, -128, 127, 0, -1)
	allKeys[int16](t, 5, math.MinInt16, math.MaxInt16, 0)
	allKeys[int32](t, 5, math.MinInt32, math.MaxInt32, 0)
	allKeys[int64](t, 5, math.MinInt64, math.MaxInt64, 0)
	allKeys[uint](t, 5, math.MaxUint, 0)
	allKeys[uint64](t, 5, math.MaxUint64, 1<<63, 1<<63-1, 0)
	allKeys[uintptr](t, 5, 0, 1)
	allKeys[float32](t, 5, -5, 0.5, 0, math.MaxFloat32)
	allKeys[grade](t, 5, -5, 0, 3)
	var bytes []byte
	for i := range 256 {
		bytes = append(bytes, byte(i*77))
	}
	allKeys(t, bytes...)
}

func TestListsAreOfTheirOwn(t *testing.T) { // P5.1
	l, o := New[string, int](), New[string, int]()
	m, n := &model[string, int]{}, &model[string, int]{}
	both(t, l, m, "a", 1, 12)
	both(t, l, m, "b", 2, 3)
	sameAs(t, o, n, "a", "b")
	both(t, o, n, "b", 3, 1)
	both(t, o, n, "c", 4, 12)
	sameAs(t, l, m, "a", "b", "c")
	sameAs(t, o, n, "a", "b", "c")
}

func TestAllOrdersOfPuts(t *testing.T) { // P5.1, P5.2, P5.3
	var through func(left, taken []int)
	lists := 0
	through = func(left, taken []int) {
		if len(left) == 0 {
			lists++
			l, m := New[int, int](), &model[int, int]{}
			for i, k := range taken {
				both(t, l, m, k, 10*k+i, 1+(lists*(i+3)+k)%12)
			}
			sameAs(t, l, m, 0, 1, 2, 3, 4, 5, 6, 7, 8, 9, 10, 11, 12)
			return
		}
		for i, k := range left {
			through(slices.Concat(left[:i], left[i+1:]), append(slices.Clone(taken), k))
		}
	}
	through([]int{1, 3, 5, 7, 9, 11}, nil)
	if lists != 720 {
		t.Errorf("%d orders", lists)
	}
}

func TestPutsAreTheModels(t *testing.T) { // P5.1, P5.2, P5.3
	for seed := range uint64(40) {
		l, m, r := New[int, int](), &model[int, int]{}, random(seed)
		wide := 10 + r(100)
		for i := range 120 {
			both(t, l, m, 2*r(wide), i*r(2), r(15)-1)
			k := r(2*wide+4) - 2
			sameAs(t, l, m, k, k+1, k+2)
		}
		for k := -2; k < 2*wide+2; k++ {
			sameAs(t, l, m, k)
		}
	}
}

// told: all that a list tells but the heights of its keys.
func told(l *List[int, int], from, to int) []int {
	ts := append([]int{l.Len()}, l.Keys()...)
	add := func(k, v int, ok bool) {
		ts = append(ts, k, v)
		if ok {
			ts = append(ts, 1)
		}
	}
	add(l.First())
	add(l.Last())
	for k := from; k < to; k++ {
		add(l.Ceil(k))
		add(l.Floor(k))
		add(l.Next(k))
		add(l.Prev(k))
		v, ok := l.Get(k)
		add(0, v, ok)
	}
	return ts
}

func TestHeightsChangeNothing(t *testing.T) { // P5.4
	heights := []func(i int) int{
		func(int) int { return 1 },
		func(int) int { return 2 },
		func(int) int { return api.MaxHeight },
		func(i int) int { return 1 + i%12 },
		func(i int) int { return 12 - i%12 },
		func(i int) int { return 1 + i*i*7%12 },
		func(i int) int { return 1 + i%2*11 },
		func(i int) int { return Height(i) },
		func(i int) int { return Height(-i) },
	}
	var lists []*List[int, int]
	for range heights {
		lists = append(lists, New[int, int]())
	}
	r := random(9)
	for i := range 300 {
		k, v := 3*r(100), r(5)
		isNew, e := lists[0].Put(k, v, heights[0](i))
		for n, l := range lists[1:] {
			if again, f := l.Put(k, v, heights[n+1](i)); again != isNew || f != e {
				t.Fatalf("Put(%d): %t, %d, not %t, %d", k, again, f, isNew, e)
			}
		}
		if i%20 != 0 && i != 299 {
			continue
		}
		want := told(lists[0], -3, 303)
		for n, l := range lists[1:] {
			if !slices.Equal(told(l, -3, 303), want) {
				t.Fatalf("behind %d puts, list %d tells other things", i+1, n+1)
			}
		}
	}
}

func TestKeysAreNewMemory(t *testing.T) { // the rules that hold everywhere
	l, m := New[string, int](), &model[string, int]{}
	for i, k := range []string{"c", "a", "b"} {
		both(t, l, m, k, i, 1+i)
	}
	first, second := l.Keys(), l.Keys()
	spoilt := append(first, "z")
	spoilt = spoilt[:cap(spoilt)]
	first = first[:cap(first)]
	for i := range first {
		first[i] = "x"
	}
	for i := range spoilt {
		spoilt[i] = "y"
	}
	if !slices.Equal(second, []string{"a", "b", "c"}) {
		t.Errorf("another answer was changed: %q", second)
	}
	sameAs(t, l, m, "a", "b", "c", "x", "y", "z")
	both(t, l, m, "d", 5, 4)
	if !slices.Equal(second, []string{"a", "b", "c"}) {
		t.Errorf("an answer was changed by a later put: %q", second)
	}
	sameAs(t, l, m, "a", "b", "c", "d")
}

func TestAskingChangesNothing(t *testing.T) { // P5.1, P5.2, P5.3
	l, m := New[int, int](), &model[int, int]{}
	for i := range 20 {
		both(t, l, m, 3*i, i, 1+i%12)
	}
	once := told(l, -2, 64)
	if !slices.Equal(told(l, -2, 64), once) {
		t.Error("asked a second time, a list tells other things")
	}
	sameAs(t, l, m, m.keys()...)
}

func TestManyKeys(t *testing.T) { // P5.1, P5.2, P5.3: rising, falling and mixed puts, with drawn heights
	const many = 1 << 16
	orders := []func(i int) int{
		func(i int) int { return i },
		func(i int) int { return many - 1 - i },
		func(i int) int { return i * 40503 % many },
	}
	for n, order := range orders {
		l, r := New[int, int](), random(uint64(n))
		for i := range many {
			fresh(t, l, 2*order(i), i, Height(r(1<<31)))
		}
		if l.Len() != many {
			t.Fatalf("order %d: %d keys", n, l.Len())
		}
		for i, k := range l.Keys() {
			if k != 2*i {
				t.Fatalf("order %d: key %d is %d", n, i, k)
			}
		}
		for i := range many {
			k := 2 * order(i)
			if v, ok := l.Get(k); v != i || !ok {
				t.Fatalf("order %d: Get(%d): %d, %t", n, k, v, ok)
			}
			if _, ok := l.Get(k + 1); ok {
				t.Fatalf("order %d: %d is there", n, k+1)
			}
			if c, v, ok := l.Ceil(k - 1); c != k || v != i || !ok {
				t.Fatalf("order %d: Ceil(%d): %d, %d, %t", n, k-1, c, v, ok)
			}
			if f, v, ok := l.Floor(k + 1); f != k || v != i || !ok {
				t.Fatalf("order %d: Floor(%d): %d, %d, %t", n, k+1, f, v, ok)
			}
		}
	}
}
