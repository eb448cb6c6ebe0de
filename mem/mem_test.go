package mem

import (
	"math"
	"slices"
	"strings"
	"testing"

	"tithebarn/api"
	"tithebarn/batch"
	"tithebarn/ikey"
)

// model is a plain list of all ops that were accepted, as they came.
type model struct {
	entries []Entry
	last    int
}

func empty() *model { return &model{last: -1} }

func putOf(key, value string) batch.Op { return batch.Op{Kind: 1, Key: key, Value: value} }

func deleteOf(key string) batch.Op { return batch.Op{Kind: 2, Key: key} }

func batchOf(seq int, ops ...batch.Op) batch.Batch { return batch.Batch{Seq: seq, Ops: ops} }

func entryOf(user string, seq, kind int, value string) Entry {
	return Entry{Key: ikey.Key{User: user, Seq: seq, Kind: kind}, Value: value}
}

// isRight: layer 10's words, one by one.
func isRight(b batch.Batch) bool {
	for _, o := range b.Ops {
		put := o.Kind == 1 && len(o.Value) <= 4096
		remove := o.Kind == 2 && o.Value == ""
		if len(o.Key) < 1 || len(o.Key) > 64 || !put && !remove {
			return false
		}
	}
	return len(b.Ops) >= 1 && len(b.Ops) <= 64 && b.Seq >= 0 && float64(b.Seq)+float64(len(b.Ops)) <= 1<<40
}

// refuses: the error that the document's words ask for, in their order.
func (m *model) refuses(b batch.Batch) api.Errno {
	if !isRight(b) {
		return api.ErrBatch
	}
	if b.Seq <= m.last {
		return api.ErrOrder
	}
	return api.OK
}

func (m *model) apply(b batch.Batch) api.Errno {
	if e := m.refuses(b); e != api.OK {
		return e
	}
	for i, o := range b.Ops {
		m.entries = append(m.entries, entryOf(o.Key, b.Seq+i, o.Kind, o.Value))
	}
	m.last = b.Seq + len(b.Ops) - 1
	return api.OK
}

// what: the newest of all of the user's entries that are at most so new.
func (m *model) what(user string, at int) (Entry, bool) {
	var found Entry
	ok := false
	for _, e := range m.entries {
		if e.Key.User == user && e.Key.Seq <= at && (!ok || e.Key.Seq > found.Key.Seq) {
			found, ok = e, true
		}
	}
	return found, ok
}

// sorted: users rising, of one user's the newest first. No two have one number.
func (m *model) sorted() []Entry {
	l := slices.Clone(m.entries)
	slices.SortFunc(l, func(a, b Entry) int {
		if c := strings.Compare(a.Key.User, b.Key.User); c != 0 {
			return c
		}
		return b.Key.Seq - a.Key.Seq
	})
	return l
}

// size: a key's bytes are the user's, with one more for each 0, and nine.
func (m *model) size() int {
	n := 0
	for _, e := range m.entries {
		n += len(e.Key.User) + strings.Count(e.Key.User, "\x00") + 2 + 6 + 1 + len(e.Value)
	}
	return n
}

func (m *model) users(at int) []string {
	var users []string
	for _, e := range m.entries {
		if found, ok := m.what(e.Key.User, at); ok && found.Key.Kind == 1 && !slices.Contains(users, e.Key.User) {
			users = append(users, e.Key.User)
		}
	}
	slices.Sort(users)
	return users
}

// numbers: about all that the entries have, and far from them.
func (m *model) numbers() []int {
	all := []int{math.MinInt, math.MinInt + 1, -api.MaxNumber, -2, -1, 0, 1, api.MaxNumber - 1, api.MaxNumber, api.MaxNumber + 1, 1 << 41, math.MaxInt - 1, math.MaxInt}
	for _, e := range m.entries {
		all = append(all, e.Key.Seq-1, e.Key.Seq, e.Key.Seq+1)
	}
	slices.Sort(all)
	return slices.Compact(all)
}

// names: the users' keys that there are, those close to them, and those that can't be.
func (m *model) names() []string {
	all := []string{"", "a", "aa", "m", "\x00", "\x00\x00", "\x00\xff", "\x00\x01", "\xff", "\xff\xff", strings.Repeat("k", 64), strings.Repeat("k", 65), strings.Repeat("\x00", 64), strings.Repeat("\xff", 200)}
	for _, e := range m.entries {
		u := e.Key.User
		all = append(all, u, u+"\x00", u+"\xff", u+"a", u[:len(u)-1])
	}
	slices.Sort(all)
	return slices.Compact(all)
}

// holdTotals holds what is told of a table without asking for a key.
func holdTotals(t *testing.T, x *Table, m *model) {
	t.Helper()
	if n := x.Last(); n != m.last {
		t.Fatalf("Last: %d, not %d", n, m.last)
	}
	if n := x.Len(); n != len(m.entries) {
		t.Fatalf("Len: %d, not %d", n, len(m.entries))
	}
	if n := x.Size(); n != m.size() {
		t.Fatalf("Size: %d, not %d", n, m.size())
	}
	if l := x.Entries(); !slices.Equal(l, m.sorted()) {
		t.Fatalf("Entries: %v, not %v", l, m.sorted())
	}
}

// hold holds all that is told of a table.
func hold(t *testing.T, x *Table, m *model) {
	t.Helper()
	holdTotals(t, x, m)
	l := m.sorted()
	numbers, names := m.numbers(), m.names()
	for _, at := range numbers {
		if users := x.Users(at); !slices.Equal(users, m.users(at)) {
			t.Fatalf("Users(%d): %q, not %q", at, users, m.users(at))
		}
		for _, user := range names {
			want, there := m.what(user, at)
			if e, ok := x.Get(user, at); e != want || ok != there {
				t.Fatalf("Get(%q, %d): %v, %v; not %v, %v", user, at, e, ok, want, there)
			}
			if e, ok := Pick(l, user, at); e != want || ok != there {
				t.Fatalf("Pick(%q, %d): %v, %v; not %v, %v", user, at, e, ok, want, there)
			}
		}
	}
	if !slices.Equal(l, m.sorted()) {
		t.Fatalf("Pick changed its list: %v", l)
	}
	holdTotals(t, x, m) // asking changes nothing
}

// apply gives a table and its model a batch, and holds what Apply tells.
func apply(t *testing.T, x *Table, m *model, b batch.Batch, draws ...int) api.Errno {
	t.Helper()
	want := m.apply(b)
	if e := x.Apply(b, draws...); e != want {
		t.Fatalf("Apply of %d ops from %d on, behind %d: %d, not %d", len(b.Ops), b.Seq, x.Last(), e, want)
	}
	return want
}

// filled: a table of these batches, and its model.
func filled(t *testing.T, batches ...batch.Batch) (*Table, *model) {
	t.Helper()
	x, m := New(), empty()
	for _, b := range batches {
		if e := apply(t, x, m, b); e != api.OK {
			t.Fatalf("Apply of %d ops from %d on: %d", len(b.Ops), b.Seq, e)
		}
	}
	return x, m
}

// sample: keys that begin others, that have bytes 0 and 255, that are put, deleted and put again; gaps between numbers.
func sample() []batch.Batch {
	return []batch.Batch{
		batchOf(3, putOf("b", "1"), putOf("a", "2"), putOf("ab", "3")),
		batchOf(10, deleteOf("a"), putOf("b", ""), putOf("b", "4"), deleteOf("c")),
		batchOf(20, putOf("a", "5"), putOf("\x00", "6"), putOf("a\x00", "7"), putOf("a\x00\xff", "8"), putOf("\xff", "9"), putOf("a\xff", "10")),
		batchOf(26, deleteOf("b"), deleteOf("b"), deleteOf("\xff"), putOf(strings.Repeat("k", 64), strings.Repeat("v", 4096))),
		batchOf(1000, deleteOf("a"), putOf(strings.Repeat("\x00", 64), "11"), putOf("a", "12"), deleteOf("\x00\x00")),
	}
}

func TestExamples(t *testing.T) { // P11.1, P11.2
	x := New()
	if e := x.Apply(batchOf(1, putOf("a", "x"))); e != api.OK {
		t.Errorf("Apply: %d", e)
	}
	if e := x.Apply(batchOf(2, deleteOf("a"))); e != api.OK {
		t.Errorf("Apply: %d", e)
	}
	if e, ok := x.Get("a", 1); e != entryOf("a", 1, 1, "x") || !ok {
		t.Errorf("Get(a, 1): %v, %v", e, ok)
	}
	if e, ok := x.Get("a", 2); e != entryOf("a", 2, 2, "") || !ok {
		t.Errorf("Get(a, 2): %v, %v", e, ok)
	}
	if e, ok := x.Get("a", 0); e != (Entry{}) || ok {
		t.Errorf("Get(a, 0): %v, %v", e, ok)
	}
	if users := x.Users(1); !slices.Equal(users, []string{"a"}) {
		t.Errorf("Users(1): %q", users)
	}
	if users := x.Users(2); len(users) != 0 {
		t.Errorf("Users(2): %q", users)
	}
}

func TestNew(t *testing.T) { // P11.1, P11.2
	x := New()
	if x.Last() != -1 || x.Len() != 0 || x.Size() != 0 || len(x.Entries()) != 0 {
		t.Errorf("New: %d, %d, %d, %v", x.Last(), x.Len(), x.Size(), x.Entries())
	}
	for _, at := range []int{math.MinInt, -1, 0, 1, math.MaxInt} {
		if users := x.Users(at); len(users) != 0 {
			t.Errorf("Users(%d): %q", at, users)
		}
		if e, ok := x.Get("a", at); e != (Entry{}) || ok {
			t.Errorf("Get(a, %d): %v, %v", at, e, ok)
		}
	}
	hold(t, x, empty())
}

func TestTablesAreTheirOwn(t *testing.T) { // P11.1, P11.4
	x, y := New(), New()
	m, none := empty(), empty()
	apply(t, x, m, batchOf(5, putOf("a", "x")))
	hold(t, y, none)
	hold(t, x, m)
	apply(t, y, none, batchOf(1, deleteOf("a")))
	hold(t, y, none)
	hold(t, x, m)
}

func TestSample(t *testing.T) { // P11.1, P11.2, P11.3
	x, m := New(), empty()
	for _, b := range sample() {
		apply(t, x, m, b)
		hold(t, x, m)
	}
	if x.Len() != 21 || x.Last() != 1003 {
		t.Errorf("%d entries, up to %d", x.Len(), x.Last())
	}
}

// wrongBatches: each is wrong for one reason, and some for several.
func wrongBatches() []batch.Batch {
	a := putOf("a", "x")
	all := []batch.Batch{
		{},
		{Seq: 5},
		{Seq: 5, Ops: []batch.Op{}},
		batchOf(5, slices.Repeat([]batch.Op{a}, 65)...),
		batchOf(-1, a), batchOf(-2, a, a), batchOf(-api.MaxNumber, a), batchOf(math.MinInt, a), batchOf(math.MinInt+1, a, a),
		batchOf(api.MaxNumber, a), batchOf(api.MaxNumber-1, a, a), batchOf(api.MaxNumber+1, a), batchOf(math.MaxInt, a), batchOf(math.MaxInt-1, a, a, a),
	}
	for _, o := range []batch.Op{
		{}, putOf("", "x"), deleteOf(""), putOf(strings.Repeat("k", 65), "x"), deleteOf(strings.Repeat("\x00", 65)), putOf("a", strings.Repeat("v", 4097)),
		{Kind: 2, Key: "a", Value: "x"}, {Kind: 0, Key: "a"}, {Kind: 3, Key: "a"}, {Kind: 3, Key: "a", Value: "x"}, {Kind: -1, Key: "a"}, {Kind: 257, Key: "a"}, {Kind: math.MaxInt, Key: "a"}, {Kind: math.MinInt, Key: "a"},
	} {
		for _, seq := range []int{0, 5, 5000} {
			all = append(all, batchOf(seq, o), batchOf(seq, o, a), batchOf(seq, a, o), batchOf(seq, a, o, a))
		}
	}
	return all
}

func TestWrongBatches(t *testing.T) { // P11.1
	for _, b := range wrongBatches() {
		for _, draws := range [][]int{nil, {15}, {-1, -1, -1}} {
			x, m := New(), empty()
			if e := apply(t, x, m, b, draws...); e != api.ErrBatch {
				t.Fatalf("a batch of %d ops from %d on is right", len(b.Ops), b.Seq)
			}
			holdTotals(t, x, m)
			if e := apply(t, x, m, batchOf(0, putOf("a", "y"))); e != api.OK {
				t.Fatalf("Apply behind what was refused: %d", e)
			}
			holdTotals(t, x, m)
		}
	}
	x, m := filled(t, sample()...)
	for _, b := range wrongBatches() {
		if e := apply(t, x, m, b); e != api.ErrBatch {
			t.Fatalf("a batch of %d ops from %d on is right", len(b.Ops), b.Seq)
		}
		holdTotals(t, x, m)
	}
	hold(t, x, m)
	apply(t, x, m, batchOf(x.Last()+1, putOf("a", "y")))
	hold(t, x, m)
}

func TestOrder(t *testing.T) { // P11.1
	for _, last := range []int{0, 1, 2, 63, 64, 1000, api.MaxNumber - 10} {
		for _, n := range []int{1, 2, 3} {
			x, m := New(), empty()
			ops := slices.Repeat([]batch.Op{putOf("a", "x")}, n)
			apply(t, x, m, batchOf(last, ops...))
			for _, seq := range []int{0, last - 1, last, last + n - 2, last + n - 1} {
				if seq < 0 {
					continue
				}
				for _, more := range [][]batch.Op{{putOf("b", "y")}, {deleteOf("a"), putOf("b", "y"), putOf("c", "z"), putOf("d", "z")}} {
					if e := apply(t, x, m, batchOf(seq, more...), -1, -1); e != api.ErrOrder {
						t.Fatalf("Apply from %d on, behind %d: %d", seq, m.last, e)
					}
					holdTotals(t, x, m)
				}
			}
			if e := apply(t, x, m, batchOf(last+n, deleteOf("a"), putOf("b", "y"))); e != api.OK {
				t.Fatalf("Apply from %d on, one above Last: %d", last+n, e)
			}
			hold(t, x, m)
		}
	}
}

// TestOrderOfErrors: a batch that is not right, and whose Seq is too low, is not right first.
func TestOrderOfErrors(t *testing.T) { // P11.1
	x, m := filled(t, batchOf(10, putOf("a", "x")))
	for _, b := range []batch.Batch{
		{}, batchOf(10, deleteOf("")), batchOf(9, deleteOf("")), batchOf(0, putOf("a", "x"), putOf("", "x")), batchOf(-1, putOf("a", "x")), batchOf(math.MinInt, putOf("a", "x")),
	} {
		if e := apply(t, x, m, b); e != api.ErrBatch {
			t.Errorf("Apply of what is wrong twice: %d", e)
		}
	}
	hold(t, x, m)
}

func TestSeqZeroIsTheFirst(t *testing.T) { // P11.1
	x, m := filled(t, batchOf(0, putOf("a", "x")))
	if x.Last() != 0 {
		t.Errorf("Last: %d", x.Last())
	}
	hold(t, x, m)
	if e := apply(t, x, m, batchOf(0, putOf("a", "y"))); e != api.ErrOrder {
		t.Errorf("Apply of Seq 0 again: %d", e)
	}
	apply(t, x, m, batchOf(1, deleteOf("a")))
	hold(t, x, m)
}

func TestNumbersAtTheLimit(t *testing.T) { // P11.1, P11.2
	x, m := filled(t, batchOf(0, putOf("a", "x")), batchOf(api.MaxNumber-3, putOf("a", "y"), deleteOf("b"), putOf("a", "z")))
	if x.Last() != api.MaxNumber-1 {
		t.Errorf("Last: %d", x.Last())
	}
	for _, seq := range []int{api.MaxNumber - 3, api.MaxNumber - 1} {
		if e := apply(t, x, m, batchOf(seq, putOf("a", "x"))); e != api.ErrOrder {
			t.Errorf("Apply from %d on: %d", seq, e)
		}
	}
	if e := apply(t, x, m, batchOf(api.MaxNumber, putOf("a", "x"))); e != api.ErrBatch {
		t.Errorf("Apply from MaxNumber on: %d", e)
	}
	hold(t, x, m)
	for _, at := range []int{api.MaxNumber - 1, api.MaxNumber, api.MaxNumber + 1, 1 << 50, math.MaxInt} {
		if e, ok := x.Get("a", at); e.Value != "z" || !ok {
			t.Errorf("Get(a, %d): %v, %v", at, e, ok)
		}
		if e, ok := Pick(x.Entries(), "a", at); e.Value != "z" || !ok {
			t.Errorf("Pick(a, %d): %v, %v", at, e, ok)
		}
	}
}

func TestOneKeyInOneBatch(t *testing.T) { // P11.1, P11.2
	x, m := filled(t, batchOf(7, putOf("a", "1"), putOf("a", "2"), deleteOf("a"), deleteOf("a"), putOf("a", "2"), putOf("b", "3"), putOf("a", ""), deleteOf("b")))
	hold(t, x, m)
	want := []Entry{
		entryOf("a", 13, 1, ""), entryOf("a", 11, 1, "2"), entryOf("a", 10, 2, ""), entryOf("a", 9, 2, ""), entryOf("a", 8, 1, "2"), entryOf("a", 7, 1, "1"),
		entryOf("b", 14, 2, ""), entryOf("b", 12, 1, "3"),
	}
	if l := x.Entries(); !slices.Equal(l, want) {
		t.Errorf("Entries: %v", l)
	}
}

func TestBatchesOfManyOps(t *testing.T) { // P11.1, P11.2
	for _, n := range []int{1, 2, 63, 64} {
		x, m := New(), empty()
		for round := range 3 {
			var ops []batch.Op
			for i := range n {
				ops = append(ops, putOf(strings.Repeat(string([]byte{byte(n - i)}), i%3+1), strings.Repeat("v", i+round)))
			}
			apply(t, x, m, batchOf(round*100+1, ops...))
		}
		hold(t, x, m)
	}
}

func TestGet(t *testing.T) { // P11.2
	x, m := filled(t, batchOf(5, putOf("a", "1")), batchOf(8, deleteOf("a")), batchOf(20, putOf("a", "2")), batchOf(30, putOf("b", "3")))
	cases := []struct {
		user string
		at   int
		want Entry
		ok   bool
	}{
		{"a", 4, Entry{}, false},
		{"a", 5, entryOf("a", 5, 1, "1"), true},
		{"a", 7, entryOf("a", 5, 1, "1"), true},
		{"a", 8, entryOf("a", 8, 2, ""), true},
		{"a", 19, entryOf("a", 8, 2, ""), true},
		{"a", 20, entryOf("a", 20, 1, "2"), true},
		{"a", 21, entryOf("a", 20, 1, "2"), true},
		{"a", math.MaxInt, entryOf("a", 20, 1, "2"), true},
		{"a", 0, Entry{}, false},
		{"a", -1, Entry{}, false},
		{"a", math.MinInt, Entry{}, false},
		{"b", 29, Entry{}, false},
		{"b", 30, entryOf("b", 30, 1, "3"), true},
		{"aa", 99, Entry{}, false},
		{"", 99, Entry{}, false},
		{"c", 99, Entry{}, false},
		{"a\x00", 99, Entry{}, false},
		{"A", 99, Entry{}, false},
		{strings.Repeat("a", 65), 99, Entry{}, false},
	}
	for _, c := range cases {
		if e, ok := x.Get(c.user, c.at); e != c.want || ok != c.ok {
			t.Errorf("Get(%q, %d): %v, %v", c.user, c.at, e, ok)
		}
		if e, ok := Pick(x.Entries(), c.user, c.at); e != c.want || ok != c.ok {
			t.Errorf("Pick(%q, %d): %v, %v", c.user, c.at, e, ok)
		}
	}
	hold(t, x, m)
}

// TestKeysThatBeginOthers: with 0 and 255 among their bytes, which the bytes of keys have for something else.
func TestKeysThatBeginOthers(t *testing.T) { // P11.2
	keys := []string{"\x00", "\x00\x00", "\x00\x00\x00", "\x00\x01", "\x00\xfe", "\x00\xff", "\x01", "a", "a\x00", "a\x00\x00", "a\x00\x01", "a\x00\xff", "a\x01", "aa", "ab", "a\xff", "a\xff\xff", "b", "\xff", "\xff\x00", "\xff\xff"}
	for turn := range keys {
		x, m := New(), empty()
		for i := range keys {
			at := (i*8 + turn) % len(keys) // 8 and 21 have no divisor in common: each key once
			op := putOf(keys[at], strings.Repeat("v", at))
			if (i+turn)%4 == 0 {
				op = deleteOf(keys[at])
			}
			apply(t, x, m, batchOf(i*3, op))
		}
		hold(t, x, m)
	}
}

func TestPutDeletedPutAgain(t *testing.T) { // P11.2
	x, m := New(), empty()
	for i := range 6 {
		apply(t, x, m, batchOf(i*10+1, putOf("a", strings.Repeat("x", i))))
		apply(t, x, m, batchOf(i*10+5, deleteOf("a")))
		hold(t, x, m)
	}
	for i := range 6 {
		if users := x.Users(i*10 + 4); !slices.Equal(users, []string{"a"}) {
			t.Errorf("Users(%d): %q", i*10+4, users)
		}
		if users := x.Users(i*10 + 5); len(users) != 0 {
			t.Errorf("Users(%d): %q", i*10+5, users)
		}
	}
}

func TestUsersWhereAllAreDeleted(t *testing.T) { // P11.2
	x, m := filled(t, batchOf(1, putOf("a", "1"), putOf("b", "2"), putOf("c", "3")), batchOf(4, deleteOf("c"), deleteOf("a"), deleteOf("b"), deleteOf("d")))
	hold(t, x, m)
	for at, want := range [][]string{nil, {"a"}, {"a", "b"}, {"a", "b", "c"}, {"a", "b"}, {"b"}, nil, nil, nil} {
		if users := x.Users(at); !slices.Equal(users, want) {
			t.Errorf("Users(%d): %q, not %q", at, users, want)
		}
	}
	x, m = filled(t, batchOf(1, deleteOf("a"), deleteOf("b")))
	hold(t, x, m)
}

func TestSize(t *testing.T) { // P11.2
	cases := []struct {
		op   batch.Op
		want int
	}{
		{putOf("a", ""), 10},
		{putOf("a", "xyz"), 13},
		{deleteOf("a"), 10},
		{putOf("\x00", ""), 11},
		{putOf("\x00\xff", ""), 12},
		{deleteOf("a\x00\x00b"), 15},
		{putOf("\xff", "\x00\x00"), 12},
		{putOf(strings.Repeat("k", 64), strings.Repeat("v", 4096)), 64 + 9 + 4096},
		{putOf(strings.Repeat("\x00", 64), strings.Repeat("\x00", 4096)), 128 + 9 + 4096},
	}
	x, m := New(), empty()
	sum := 0
	for i, c := range cases {
		alone := New()
		alone.Apply(batchOf(i, c.op))
		if n := alone.Size(); n != c.want {
			t.Errorf("Size of %d bytes of key, %d of value: %d, not %d", len(c.op.Key), len(c.op.Value), n, c.want)
		}
		sum += c.want
		apply(t, x, m, batchOf(i, c.op))
		if x.Size() != sum {
			t.Errorf("Size of %d: %d, not %d", i+1, x.Size(), sum)
		}
	}
	holdTotals(t, x, m)
}

// lists of draws that are fewer than ops, as many, more, none, below 0, and great.
func draws() [][]int {
	return [][]int{
		nil, {}, {0}, {3}, {15}, {-1}, {math.MaxInt}, {math.MinInt}, {1 << 24}, {-4},
		{3, 15, 63, 0}, {-1, -1, -1, -1, -1, -1}, {1, 2, 3, 4, 5, 6, 7, 8}, {math.MaxInt, math.MinInt, 1<<22 - 1, 1<<24 - 1, 1<<26 - 1},
		slices.Repeat([]int{-1}, 64), slices.Repeat([]int{3, 0, 15}, 100),
	}
}

func TestDrawsChangeNothing(t *testing.T) { // P11.1, P11.2
	for _, d := range draws() {
		x, m := New(), empty()
		for _, b := range sample() {
			apply(t, x, m, b, d...)
		}
		hold(t, x, m)
		for _, b := range []batch.Batch{batchOf(5, putOf("a", "x")), batchOf(5000, putOf("", "x"))} {
			apply(t, x, m, b, d...)
		}
		hold(t, x, m)
	}
}

// TestDrawsAreOfTheTowers: the i-th op's height is that of the i-th draw, 1 where there is none.
func TestDrawsAreOfTheTowers(t *testing.T) { // P11.1
	for _, c := range []struct{ draws, want []int }{
		{nil, []int{1, 1, 1}},
		{[]int{15}, []int{3, 1, 1}},
		{[]int{0, 3}, []int{1, 2, 1}},
		{[]int{-1, 63, 1}, []int{12, 4, 1}},
		{[]int{2, 7, 15, -1}, []int{1, 2, 3}},
	} {
		x := New()
		x.Apply(batchOf(1, putOf("a", "x"), putOf("a", "y"), deleteOf("b")), c.draws...)
		for i, k := range batchOf(1, putOf("a", "x"), putOf("a", "y"), deleteOf("b")).Keys() {
			b, _ := k.Bytes()
			if h := x.order.Height(string(b)); h != c.want[i] {
				t.Errorf("draws %v: the tower of op %d has height %d, not %d", c.draws, i, h, c.want[i])
			}
		}
	}
}

func TestPickOfNoEntries(t *testing.T) { // P11.3
	for _, l := range [][]Entry{nil, {}} {
		for _, user := range []string{"", "a"} {
			for _, at := range []int{math.MinInt, -1, 0, 1, math.MaxInt} {
				if e, ok := Pick(l, user, at); e != (Entry{}) || ok {
					t.Errorf("Pick(%q, %d) of no entries: %v, %v", user, at, e, ok)
				}
			}
		}
	}
}

// TestPickOfPointers: entries of other layers have those, too; also two of one number.
func TestPickOfPointers(t *testing.T) { // P11.3
	l := []Entry{entryOf("a", 5, 3, "p"), entryOf("a", 5, 1, "x"), entryOf("a", 3, 2, ""), entryOf("b", 4, 3, "q"), entryOf("c", 0, 1, "y")}
	cases := []struct {
		user string
		at   int
		want int
	}{
		{"a", 6, 0}, {"a", 5, 0}, {"a", 4, 2}, {"a", 3, 2}, {"a", 2, -1}, {"b", 4, 3}, {"b", math.MaxInt, 3}, {"b", 3, -1}, {"c", 0, 4}, {"c", -1, -1}, {"d", 9, -1}, {"", 9, -1},
	}
	for _, c := range cases {
		want := Entry{}
		if c.want >= 0 {
			want = l[c.want]
		}
		if e, ok := Pick(l, c.user, c.at); e != want || ok != (c.want >= 0) {
			t.Errorf("Pick(%q, %d): %v, %v", c.user, c.at, e, ok)
		}
	}
}

// TestPickOfAPiece: of each beginning and end of a table's entries it tells as a table of those would.
func TestPickOfAPiece(t *testing.T) { // P11.3
	_, all := filled(t, sample()...)
	l := all.sorted()
	for from := range len(l) + 1 {
		for _, piece := range [][]Entry{l[from:], l[:from]} {
			m := &model{entries: piece}
			for _, at := range all.numbers() {
				for _, user := range []string{"a", "ab", "b", "\x00", "\xff", "c", "z"} {
					want, there := m.what(user, at)
					if e, ok := Pick(piece, user, at); e != want || ok != there {
						t.Fatalf("Pick(%q, %d) of %v: %v, %v", user, at, piece, e, ok)
					}
				}
			}
		}
	}
}

// TestPickEnds: whatever the list, also one that is in no order, or whose keys are not right.
func TestPickEnds(t *testing.T) { // P1
	lists := [][]Entry{
		{{}},
		{{}, {}, {}},
		{entryOf("b", 1, 1, ""), entryOf("a", 9, 1, ""), entryOf("b", 3, 2, "")},
		{entryOf("", math.MinInt, math.MaxInt, ""), entryOf("a", math.MaxInt, math.MinInt, ""), entryOf("a", math.MinInt, 0, "")},
	}
	for _, l := range lists {
		for _, user := range []string{"", "a", "b", strings.Repeat("k", 100)} {
			for _, at := range []int{math.MinInt, -1, 0, 5, math.MaxInt} {
				if e, ok := Pick(l, user, at); !ok && e != (Entry{}) {
					t.Errorf("Pick(%q, %d): %v beside false", user, at, e)
				}
			}
		}
	}
}

// spoil writes over a list's spare room.
func spoil[E any](l []E, with E) {
	l = l[:cap(l)]
	for i := range l {
		l[i] = with
	}
}

func TestWhatIsToldIsNewMemory(t *testing.T) { // P11.4
	x, m := filled(t, sample()...)
	l, again := x.Entries(), x.Entries()
	users, usersAgain := x.Users(25), x.Users(25)
	spoil(l, entryOf("spoilt", 1, 1, "spoilt"))
	spoil(users, "spoilt")
	if !slices.Equal(again, m.sorted()) || !slices.Equal(usersAgain, m.users(25)) {
		t.Errorf("two answers share memory")
	}
	hold(t, x, m)
	l = append(x.Entries(), entryOf("spoilt", 1, 1, "spoilt"))
	users = append(x.Users(25), "spoilt")
	hold(t, x, m)
	kept, usersKept := x.Entries(), x.Users(25)
	want, usersWant := m.sorted(), m.users(25)
	apply(t, x, m, batchOf(2000, putOf("\x00", "new"), deleteOf("b"), putOf("zz", "new")))
	if !slices.Equal(kept, want) || !slices.Equal(usersKept, usersWant) {
		t.Errorf("what was told changed with the table")
	}
	spoil(kept, Entry{})
	spoil(usersKept, "")
	spoil(l, Entry{})
	spoil(users, "")
	hold(t, x, m)
}

func TestWhatIsHandedInIsNotChangedAndNotKept(t *testing.T) { // P11.4
	x, m := New(), empty()
	for _, b := range sample() {
		room := make([]batch.Op, len(b.Ops)+3)
		d := make([]int, 8)
		for i := range room {
			room[i] = putOf("spare", "room")
		}
		for i := range d {
			d[i] = i*4 + 3
		}
		copy(room, b.Ops)
		was, drawsWere := slices.Clone(room), slices.Clone(d)
		apply(t, x, m, batchOf(b.Seq, room[:len(b.Ops)]...), d[:2]...)
		if !slices.Equal(room, was) || !slices.Equal(d, drawsWere) {
			t.Fatalf("Apply changed what it was handed")
		}
		spoil(room, deleteOf("spoilt"))
		spoil(d, -1)
		hold(t, x, m)
	}
	l := x.Entries()
	room := append(slices.Clone(l), entryOf("spare", 1, 1, "room"))
	was := slices.Clone(room)
	e, ok := Pick(room[:len(l)], "b", 100)
	spoil(room, Entry{})
	if e != entryOf("b", 27, 2, "") || !ok {
		t.Errorf("Pick: %v, %v", e, ok)
	}
	copy(room, was)
	Pick(room[:len(l)], "b", 100)
	if !slices.Equal(room[:len(was)], was) {
		t.Errorf("Pick changed what it was handed")
	}
}

// chance: numbers that look as if by chance, the same each time.
type chance uint64

func (c *chance) below(n int) int {
	*c = *c*6364136223846793005 + 1442695040888963407
	return int(uint64(*c)>>33) % n
}

func (c *chance) key() string {
	alphabet := []byte{0, 1, 255, 'a'}
	k := make([]byte, c.below(4))
	for i := range k {
		k[i] = alphabet[c.below(len(alphabet))]
	}
	return string(k) // an empty one is wrong, and so is the batch
}

func (c *chance) batch(last int) batch.Batch {
	b := batch.Batch{Seq: last + c.below(6) - 1}
	for range c.below(6) {
		if c.below(3) == 0 {
			b.Ops = append(b.Ops, deleteOf(c.key()))
			continue
		}
		b.Ops = append(b.Ops, putOf(c.key(), strings.Repeat("v", c.below(9))))
	}
	return b
}

func (c *chance) draws() []int {
	d := make([]int, c.below(8))
	for i := range d {
		d[i] = c.below(1<<30) - c.below(1<<30)
	}
	return d
}

func TestRuns(t *testing.T) { // P11.1, P11.2, P11.3
	told := map[api.Errno]int{}
	for seed := range 40 {
		c := chance(seed)
		x, m := New(), empty()
		for range 25 {
			told[apply(t, x, m, c.batch(m.last), c.draws()...)]++
			holdTotals(t, x, m)
		}
		hold(t, x, m)
	}
	if told[api.OK] < 100 || told[api.ErrBatch] < 100 || told[api.ErrOrder] < 100 {
		t.Errorf("the runs meet too little: %v", told)
	}
}

// TestManyEntries: what is told of a great table comes soon, draws or none.
func TestManyEntries(t *testing.T) { // P11.2
	for _, d := range [][]int{nil, {3, 0, 15, 1, 7, 0, 2, 63}} {
		x, m := New(), empty()
		for i := range 1000 {
			var ops []batch.Op
			for j := range 8 {
				ops = append(ops, putOf(strings.Repeat(string([]byte{byte(i * 7), byte(j)}), i%5+1), "v"))
			}
			apply(t, x, m, batchOf(i*8, ops...), d...)
		}
		holdTotals(t, x, m)
		for range 20 {
			if len(x.Entries()) != 8000 {
				t.Fatalf("Entries")
			}
			if users := x.Users(math.MaxInt); !slices.IsSorted(users) || len(users) == 0 {
				t.Fatalf("Users")
			}
		}
	}
}
