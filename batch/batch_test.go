package batch

import (
	"bytes"
	"encoding/binary"
	"math"
	"slices"
	"strings"
	"testing"

	"tithebarn/api"
	"tithebarn/ikey"
)

// numberOf: a number as layer 2 words it.
func numberOf(n int) string {
	return string(binary.AppendUvarint(nil, uint64(n)))
}

// textOf: a text as layer 2 words it.
func textOf(s string) string {
	return numberOf(len(s)) + s
}

func putOf(key, value string) Op { return Op{Kind: 1, Key: key, Value: value} }

func deleteOf(key string) Op { return Op{Kind: 2, Key: key} }

// opBytes: an op's bytes as the document words them, whatever it is.
func opBytes(o Op) string {
	b := string([]byte{byte(o.Kind)}) + textOf(o.Key)
	if o.Kind == 1 {
		b += textOf(o.Value)
	}
	return b
}

// bytesOf: a batch's bytes as the document words them, whatever it is.
func bytesOf(b Batch) string {
	all := numberOf(b.Seq) + numberOf(len(b.Ops))
	for _, o := range b.Ops {
		all += opBytes(o)
	}
	return all
}

// opIsRight: the document's words, one by one.
func opIsRight(o Op) bool {
	kind := o.Kind == 1 || o.Kind == 2
	key := len(o.Key) >= 1 && len(o.Key) <= 64
	value := len(o.Value) <= 4096
	empty := o.Kind != 2 || len(o.Value) == 0
	return kind && key && value && empty
}

// isRight: the document's words, one by one; Seq and the number of ops are put together as floats, which have no greatest int.
func isRight(b Batch) bool {
	for _, o := range b.Ops {
		if !opIsRight(o) {
			return false
		}
	}
	return len(b.Ops) >= 1 && len(b.Ops) <= 64 && b.Seq >= 0 && float64(b.Seq)+float64(len(b.Ops)) <= 1<<40
}

// taken: the number, or the text, that a text begins with, and what is behind it; numbers that are longer than they need count, too.
func taken(s string) (n int, rest string, ok bool) {
	u, size := binary.Uvarint([]byte(s))
	if size <= 0 || u > math.MaxInt {
		return 0, "", false
	}
	return int(u), s[size:], true
}

func takenText(s string) (text, rest string, ok bool) {
	n, rest, ok := taken(s)
	if !ok || n > len(rest) {
		return "", "", false
	}
	return rest[:n], rest[n:], true
}

func takenOp(s string) (o Op, rest string, ok bool) {
	if s == "" {
		return Op{}, "", false
	}
	o.Kind = int(s[0])
	o.Key, rest, ok = takenText(s[1:])
	if ok && o.Kind == 1 {
		o.Value, rest, ok = takenText(rest)
	}
	return o, rest, ok
}

// parsed takes a text apart, as many ops as there are. What comes out counts, if it is right, and its bytes are just the text.
func parsed(s string) (Batch, bool) {
	seq, rest, ok := taken(s)
	if !ok {
		return Batch{}, false
	}
	_, rest, ok = taken(rest)
	b := Batch{Seq: seq}
	for ok && rest != "" {
		var o Op
		if o, rest, ok = takenOp(rest); ok {
			b.Ops = append(b.Ops, o)
		}
	}
	if !ok || !isRight(b) || bytesOf(b) != s {
		return Batch{}, false
	}
	return b, true
}

func same(a, b Batch) bool {
	return a.Seq == b.Seq && slices.Equal(a.Ops, b.Ops)
}

// brief: a batch, as a failed test tells it.
func brief(b Batch) string {
	s := bytesOf(b)
	return s[:min(len(s), 60)]
}

// wantParse holds Parse against the document's words, and tells whether there is a batch.
func wantParse(t *testing.T, s string) bool {
	t.Helper()
	in := []byte(s)
	b, e := Parse(in)
	if string(in) != s {
		t.Fatalf("Parse changed %q to %q", s, in)
	}
	want, right := parsed(s)
	wantError := api.ErrForm
	if right {
		wantError = api.OK
	}
	if !same(b, want) || e != wantError {
		t.Fatalf("Parse(%q): %v, %d; not %v, %d", s, b, e, want, wantError)
	}
	if right {
		if again, e := b.Bytes(); string(again) != s || e != api.OK {
			t.Fatalf("Bytes of what Parse(%q) tells: %q, %d", s, again, e)
		}
	}
	return right
}

// refused holds that Parse tells of no batch.
func refused(t *testing.T, why, s string) {
	t.Helper()
	if wantParse(t, s) {
		t.Fatalf("%s: %q counts as right", why, s)
	}
}

// wantRight holds all that is told of a batch that is right, but for Find.
func wantRight(t *testing.T, b Batch) {
	t.Helper()
	if !isRight(b) {
		t.Fatalf("%q is taken for right by the test alone", brief(b))
	}
	want := bytesOf(b)
	if e := b.Check(); e != api.OK {
		t.Fatalf("Check of %q: %d", brief(b), e)
	}
	if x, e := b.Bytes(); string(x) != want || e != api.OK {
		t.Fatalf("Bytes of %q: %d bytes, %d", brief(b), len(x), e)
	}
	if c, e := Parse([]byte(want)); !same(c, b) || e != api.OK {
		t.Fatalf("Parse of the bytes of %q: %d, %d ops, %d", brief(b), c.Seq, len(c.Ops), e)
	}
	if n := b.Size(); n != len(want) {
		t.Fatalf("Size of %q: %d, not %d", brief(b), n, len(want))
	}
	if n := b.Last(); n != b.Seq+len(b.Ops)-1 {
		t.Fatalf("Last of %q: %d", brief(b), n)
	}
	keys := b.Keys()
	if len(keys) != len(b.Ops) {
		t.Fatalf("Keys of %q: %d", brief(b), len(keys))
	}
	for i, k := range keys {
		if k != (ikey.Key{User: b.Ops[i].Key, Seq: b.Seq + i, Kind: b.Ops[i].Kind}) || k.Check() != api.OK {
			t.Fatalf("key %d of %q: %v", i, brief(b), k)
		}
	}
}

// wantWrong holds all that is told of a batch that is not right, but for Find.
func wantWrong(t *testing.T, b Batch) {
	t.Helper()
	if isRight(b) {
		t.Fatalf("%q is taken for wrong by the test alone", brief(b))
	}
	if e := b.Check(); e != api.ErrBatch {
		t.Fatalf("Check of %q: %d", brief(b), e)
	}
	if x, e := b.Bytes(); x != nil || e != api.ErrBatch {
		t.Fatalf("Bytes of %q: %d bytes, %d", brief(b), len(x), e)
	}
	if n := b.Size(); n != 0 {
		t.Fatalf("Size of %q: %d", brief(b), n)
	}
	if n := b.Last(); n != 0 {
		t.Fatalf("Last of %q: %d", brief(b), n)
	}
	if keys := b.Keys(); keys != nil {
		t.Fatalf("Keys of %q: %v", brief(b), keys)
	}
}

// want holds all that is told of a batch, right or not, but for Find.
func want(t *testing.T, b Batch) {
	t.Helper()
	if isRight(b) {
		wantRight(t, b)
		return
	}
	wantWrong(t, b)
}

func rightKeys() []string {
	return []string{"a", "b", "ab", "\x00", "\xff", "\x00\xff", "a\x00", "é", "\xc3", strings.Repeat("k", 63), strings.Repeat("k", 64), strings.Repeat("\x00", 64), strings.Repeat("\xff", 64)}
}

func wrongKeys() []string {
	return []string{"", strings.Repeat("k", 65), strings.Repeat("\x00", 65), strings.Repeat("k", 66), strings.Repeat("k", 128), strings.Repeat("k", 5000)}
}

func rightValues() []string {
	return []string{"", "x", "\x00", "\xff", "\x01\x01a", strings.Repeat("v", 127), strings.Repeat("v", 128), strings.Repeat("v", 4095), strings.Repeat("v", 4096), strings.Repeat("\x00", 4096)}
}

func wrongValues() []string {
	return []string{strings.Repeat("v", 4097), strings.Repeat("\x00", 4097), strings.Repeat("v", 5000), strings.Repeat("v", 1<<16)}
}

func rightOps() []Op {
	var ops []Op
	for _, k := range rightKeys() {
		ops = append(ops, deleteOf(k))
		for _, v := range rightValues() {
			ops = append(ops, putOf(k, v))
		}
	}
	return ops
}

// wrongKinds: also those whose lowest byte is a right kind's.
func wrongKinds() []int {
	return []int{0, 3, 4, -1, -2, 255, 256, 257, 258, -254, -255, 513, 1 << 32, 1<<32 + 1, math.MaxInt, math.MinInt, math.MinInt + 1, math.MinInt + 2}
}

// wrongOps: each is wrong for one reason, and some for several.
func wrongOps() []Op {
	var ops []Op
	for _, kind := range wrongKinds() {
		for _, v := range []string{"", "x"} {
			ops = append(ops, Op{Kind: kind, Key: "a", Value: v}, Op{Kind: kind, Value: v})
		}
	}
	for _, k := range wrongKeys() {
		ops = append(ops, putOf(k, ""), putOf(k, "x"), deleteOf(k))
	}
	for _, v := range wrongValues() {
		ops = append(ops, putOf("a", v), putOf("", v), Op{Kind: 2, Key: "a", Value: v}, Op{Kind: 3, Key: "a", Value: v})
	}
	for _, v := range rightValues()[1:] {
		ops = append(ops, Op{Kind: 2, Key: "a", Value: v})
	}
	return append(ops, Op{})
}

// many: so many ops, of both kinds, some with keys that others have.
func many(n int) []Op {
	var ops []Op
	for i := range n {
		key := strings.Repeat(string([]byte{byte(i % 7)}), i%5+1)
		if i%3 == 2 {
			ops = append(ops, deleteOf(key))
			continue
		}
		ops = append(ops, putOf(key, strings.Repeat("v", i*i%4097)))
	}
	return ops
}

// example: the document's.
func example() Batch {
	return Batch{Seq: 5, Ops: []Op{putOf("a", "x"), deleteOf("b")}}
}

const exampleBytes = "\x05\x02\x01\x01a\x01x\x02\x01b"

func TestExamples(t *testing.T) { // P10.1, P10.2
	b := example()
	if x, e := b.Bytes(); string(x) != string([]byte{5, 2, 1, 1, 97, 1, 120, 2, 1, 98}) || e != api.OK {
		t.Errorf("Bytes: %x, %d", x, e)
	}
	if n := b.Last(); n != 6 {
		t.Errorf("Last: %d", n)
	}
	if n := b.Size(); n != 10 {
		t.Errorf("Size: %d", n)
	}
	if c, e := Parse([]byte(exampleBytes)); !same(c, b) || e != api.OK {
		t.Errorf("Parse: %v, %d", c, e)
	}
	if keys := b.Keys(); !slices.Equal(keys, []ikey.Key{{User: "a", Seq: 5, Kind: 1}, {User: "b", Seq: 6, Kind: 2}}) {
		t.Errorf("Keys: %v", keys)
	}
	wantRight(t, b)
}

func TestRightOps(t *testing.T) { // P10.1, P10.2
	for _, o := range rightOps() {
		if e := o.Check(); e != api.OK || !opIsRight(o) {
			t.Errorf("Check of %d, %d bytes, %d bytes: %d", o.Kind, len(o.Key), len(o.Value), e)
		}
		wantRight(t, Batch{Ops: []Op{o}})
		wantRight(t, Batch{Seq: 300, Ops: []Op{deleteOf("a"), o, putOf("b", "")}})
	}
}

func TestWrongOps(t *testing.T) { // P10.1, P10.2
	for _, o := range wrongOps() {
		if e := o.Check(); e != api.ErrBatch || opIsRight(o) {
			t.Errorf("Check of %d, %d bytes, %d bytes: %d", o.Kind, len(o.Key), len(o.Value), e)
		}
		wantWrong(t, Batch{Ops: []Op{o}})
		wantWrong(t, Batch{Seq: 300, Ops: []Op{o}})
	}
}

// TestOneWrongOpOfSeveral: wherever it stands.
func TestOneWrongOpOfSeveral(t *testing.T) { // P10.1, P10.2
	for _, n := range []int{2, 3, 64} {
		for at := range n {
			for _, o := range []Op{{}, {Kind: 3, Key: "a"}, putOf("", "x"), {Kind: 2, Key: "a", Value: "x"}, putOf(strings.Repeat("k", 65), "x")} {
				b := Batch{Seq: 9, Ops: many(n)}
				wantRight(t, b)
				b.Ops[at] = o
				wantWrong(t, b)
			}
		}
	}
}

func TestNumbersOfOps(t *testing.T) { // P10.1, P10.2
	for n := range 130 {
		b := Batch{Seq: 7, Ops: many(n)}
		if right := 1 <= n && n <= 64; isRight(b) != right {
			t.Fatalf("%d ops: right is %v", n, isRight(b))
		}
		want(t, b)
		if n == 0 || n > 64 {
			refused(t, "number of ops", bytesOf(b))
		}
	}
	wantWrong(t, Batch{})
	wantWrong(t, Batch{Ops: []Op{}})
	wantWrong(t, Batch{Seq: 5})
	wantWrong(t, Batch{Ops: many(1 << 12)})
}

func TestSeqs(t *testing.T) { // P10.1, P10.2
	for _, n := range []int{1, 2, 3, 63, 64} {
		ops := many(n)
		for _, seq := range []int{0, 1, 127, 128, 16383, 16384, 1 << 32, api.MaxNumber - 65, api.MaxNumber - n - 1, api.MaxNumber - n} {
			wantRight(t, Batch{Seq: seq, Ops: ops})
		}
		for _, seq := range []int{
			-1, -2, -n, -n - 1, -64, -127, -1 << 32, -api.MaxNumber, math.MinInt, math.MinInt + n,
			api.MaxNumber - n + 1, api.MaxNumber, api.MaxNumber + 1, 1 << 41, math.MaxInt - 64, math.MaxInt - n, math.MaxInt - n + 1, math.MaxInt - 1, math.MaxInt,
		} {
			wantWrong(t, Batch{Seq: seq, Ops: ops})
			if seq >= 0 {
				refused(t, "Seq", bytesOf(Batch{Seq: seq, Ops: ops}))
			}
		}
	}
}

func TestNumberOfTheLastOpAtTheLimit(t *testing.T) { // P10.2
	b := Batch{Seq: 1<<40 - 64, Ops: many(64)}
	if n := b.Last(); n != 1<<40-1 {
		t.Errorf("Last: %d", n)
	}
	if keys := b.Keys(); len(keys) != 64 || keys[0].Seq != 1<<40-64 || keys[63].Seq != 1<<40-1 {
		t.Errorf("Keys: %v", keys)
	}
	b = Batch{Ops: []Op{putOf("a", "x")}}
	if b.Last() != 0 || b.Size() != 7 || b.Check() != api.OK {
		t.Errorf("the first op of all: %d, %d, %d", b.Last(), b.Size(), b.Check())
	}
}

func TestKeysStandInTheOrderOfOps(t *testing.T) { // P10.2
	b := Batch{Seq: 10, Ops: []Op{putOf("b", "1"), deleteOf("a"), putOf("b", "2"), deleteOf("b"), putOf("a", "")}}
	want := []ikey.Key{{User: "b", Seq: 10, Kind: 1}, {User: "a", Seq: 11, Kind: 2}, {User: "b", Seq: 12, Kind: 1}, {User: "b", Seq: 13, Kind: 2}, {User: "a", Seq: 14, Kind: 1}}
	if keys := b.Keys(); !slices.Equal(keys, want) {
		t.Errorf("Keys: %v", keys)
	}
}

func TestParseOfWhatIsNoBatch(t *testing.T) { // P10.1
	big := strings.Repeat("v", 4097)
	cases := []struct{ why, text string }{
		{"nothing", ""},
		{"Seq alone", "\x05"},
		{"no op", "\x05\x00"},
		{"no op, and more", "\x05\x00\x02\x01a"},
		{"more ops said", "\x05\x02\x02\x01a"},
		{"many more ops said", "\x05\x40\x02\x01a"},
		{"fewer ops said", "\x05\x01\x02\x01a\x02\x01b"},
		{"no op said", "\x05\x00\x02\x01a\x02\x01b"},
		{"kind 0", "\x05\x01\x00\x01a"},
		{"kind 0 with a value", "\x05\x01\x00\x01a\x01x"},
		{"kind 3", "\x05\x01\x03\x01a"},
		{"kind 3 with a value", "\x05\x01\x03\x01a\x01x"},
		{"kind 255", "\x05\x01\xff\x01a"},
		{"kind 1 as a longer number", "\x05\x01\x81\x00\x01a\x01x"},
		{"kind 2 as a longer number", "\x05\x01\x82\x00\x01a"},
		{"put without a value", "\x05\x01\x01\x01a"},
		{"put without a value, and a delete", "\x05\x02\x01\x01a\x02\x01b"},
		{"put with half a value", "\x05\x01\x01\x01a\x02x"},
		{"delete with a value", "\x05\x01\x02\x01a\x01x"},
		{"delete with an empty value", "\x05\x01\x02\x01a\x00"},
		{"delete with a value, and a put", "\x05\x02\x02\x01a\x01x\x01\x01b\x01y"},
		{"put with two values", "\x05\x01\x01\x01a\x01x\x01y"},
		{"put without a key", "\x05\x01\x01\x00\x01x"},
		{"delete without a key", "\x05\x01\x02\x00"},
		{"put with a key too long", "\x05\x01\x01\x41" + strings.Repeat("k", 65) + "\x01x"},
		{"delete with a key too long", "\x05\x01\x02\x41" + strings.Repeat("k", 65)},
		{"value too long", "\x05\x01\x01\x01a\x81\x20" + big},
		{"op wrong behind one that is right", "\x05\x02\x02\x01a\x02\x00"},
		{"op wrong ahead of one that is right", "\x05\x02\x02\x00\x02\x01a"},
		{"Seq too great", numberOf(api.MaxNumber) + "\x01\x02\x01a"},
		{"Seq as the greatest int", numberOf(math.MaxInt) + "\x01\x02\x01a"},
		{"Seq of ten bytes", "\xff\xff\xff\xff\xff\xff\xff\xff\xff\x01\x01\x02\x01a"},
		{"Seq longer than it needs", "\x85\x00\x01\x02\x01a"},
		{"Seq 0 longer than it needs", "\x80\x00\x01\x02\x01a"},
		{"number of ops longer than it needs", "\x05\x81\x00\x02\x01a"},
		{"number of a key's bytes longer than it needs", "\x05\x01\x02\x81\x00a"},
		{"number of a value's bytes longer than it needs", "\x05\x01\x01\x01a\x81\x00x"},
		{"number of no bytes longer than it needs", "\x05\x01\x01\x01a\x80\x00"},
		{"65 ops", "\x05\x41" + strings.Repeat("\x02\x01a", 65)},
		{"65 ops, said to be 64", "\x05\x40" + strings.Repeat("\x02\x01a", 65)},
		{"64 ops, said to be 65", "\x05\x41" + strings.Repeat("\x02\x01a", 64)},
		{"64 ops, said to be 63", "\x05\x3f" + strings.Repeat("\x02\x01a", 64)},
		{"63 ops, said to be 64", "\x05\x40" + strings.Repeat("\x02\x01a", 63)},
		{"65 ops of Seq 0", "\x00\x41" + strings.Repeat("\x02\x01a", 65)},
		{"no end of bytes that go on", strings.Repeat("\xff", 100)},
		{"bytes of 0", strings.Repeat("\x00", 100)},
	}
	for _, c := range cases {
		refused(t, c.why, c.text)
	}
	for _, b := range [][]byte{nil, {}} {
		if c, e := Parse(b); !same(c, Batch{}) || e != api.ErrForm {
			t.Errorf("Parse of nothing: %v, %d", c, e)
		}
	}
}

// TestParseOfTooManyOpsSaid: a few bytes say that there are more than anything has; the answer comes all the same.
func TestParseOfTooManyOpsSaid(t *testing.T) { // P1, P10.1
	for _, n := range []int{65, 66, 127, 128, 1 << 16, 1 << 31, 1 << 40, 1 << 62, math.MaxInt} {
		for _, seq := range []int{0, 5, api.MaxNumber} {
			for _, ops := range []string{"", "\x02\x01a", strings.Repeat("\x02\x01a", 64), strings.Repeat("\x02\x01a", 66)} {
				refused(t, "too many ops said", numberOf(seq)+numberOf(n)+ops)
			}
		}
	}
	for _, n := range []int{65, 4097, 1 << 31, math.MaxInt - 1, math.MaxInt} { // texts that are said to have so many bytes
		refused(t, "a key's bytes", "\x05\x01\x02"+numberOf(n)+"abc")
		refused(t, "a value's bytes", "\x05\x01\x01\x01a"+numberOf(n)+"abc")
	}
}

func TestParseOfWhatIsOne(t *testing.T) { // P10.1
	cases := []struct {
		text string
		want Batch
	}{
		{exampleBytes, example()},
		{"\x00\x01\x02\x01a", Batch{Ops: []Op{deleteOf("a")}}},
		{"\x00\x01\x01\x01a\x00", Batch{Ops: []Op{putOf("a", "")}}},
		{"\xac\x02\x01\x01\x02\x00\xff\x01\x00", Batch{Seq: 300, Ops: []Op{putOf("\x00\xff", "\x00")}}},
		{"\x05\x02\x02\x01a\x02\x01a", Batch{Seq: 5, Ops: []Op{deleteOf("a"), deleteOf("a")}}},
		{"\x05\x02\x01\x01a\x03\x02\x01b\x02\x01a", Batch{Seq: 5, Ops: []Op{putOf("a", "\x02\x01b"), deleteOf("a")}}},
		{"\x01\x40" + strings.Repeat("\x02\x01a", 64), Batch{Seq: 1, Ops: slices.Repeat([]Op{deleteOf("a")}, 64)}},
		{"\x01\x01\x01\x40" + strings.Repeat("k", 64) + "\x80\x20" + strings.Repeat("v", 4096), Batch{Seq: 1, Ops: []Op{putOf(strings.Repeat("k", 64), strings.Repeat("v", 4096))}}},
		{numberOf(api.MaxNumber-1) + "\x01\x02\x01a", Batch{Seq: api.MaxNumber - 1, Ops: []Op{deleteOf("a")}}},
	}
	for _, c := range cases {
		if b, e := Parse([]byte(c.text)); !same(b, c.want) || e != api.OK {
			t.Errorf("Parse(%q): %v, %d", c.text, b, e)
		}
		wantParse(t, c.text)
	}
}

// several: bytes of batches of several sorts, not too long.
func several() []string {
	var all []string
	for _, b := range []Batch{
		example(),
		{Ops: []Op{deleteOf("a")}},
		{Ops: []Op{putOf("a", "")}},
		{Seq: 300, Ops: []Op{putOf("ab", "xyz"), putOf("ab", ""), deleteOf("ab"), putOf("\x00", "\x00\x01\x02")}},
		{Seq: 1 << 39, Ops: []Op{putOf(strings.Repeat("k", 64), strings.Repeat("v", 130)), deleteOf(strings.Repeat("\x02", 64))}},
		{Seq: api.MaxNumber - 5, Ops: many(5)},
		{Seq: 127, Ops: slices.Repeat([]Op{deleteOf("\x01")}, 64)},
	} {
		all = append(all, bytesOf(b))
	}
	return all
}

func TestParseOfBytesThatEndTooEarlyOrGoOn(t *testing.T) { // P10.1
	for _, s := range several() {
		if !wantParse(t, s) {
			t.Fatalf("%q counts as wrong", s)
		}
		for n := range len(s) {
			refused(t, "cut off", s[:n])
		}
		for c := range 256 {
			refused(t, "a byte more", s+string([]byte{byte(c)}))
		}
		refused(t, "twice", s+s)
	}
}

// TestParseWithAnyByteInAnyPlace: some of these are batches, too.
func TestParseWithAnyByteInAnyPlace(t *testing.T) { // P10.1
	right, wrong := 0, 0
	for _, s := range several() {
		for i := range len(s) {
			for c := range 256 {
				for _, o := range []string{s[:i] + string([]byte{byte(c)}) + s[i+1:], s[:i] + string([]byte{byte(c)}) + s[i:]} {
					if wantParse(t, o) {
						right++
					} else {
						wrong++
					}
				}
			}
			wantParse(t, s[:i]+s[i+1:])
		}
	}
	if right < 1000 || wrong < 1000 {
		t.Errorf("%d right ones and %d wrong ones were tried", right, wrong)
	}
}

// TestParseOfAllShortTexts: of all texts of a few bytes.
func TestParseOfAllShortTexts(t *testing.T) { // P10.1
	parts := []byte{0, 1, 2, 3, 'a', 128}
	layer := []string{""}
	right := 0
	for range 8 {
		var next []string
		for _, s := range layer {
			if wantParse(t, s) {
				right++
			}
			if len(s) > 1 && s[1] != 1 && s[1] != 2 { // no more than a few are right, whatever is behind
				continue
			}
			for _, c := range parts {
				next = append(next, s+string([]byte{c}))
			}
		}
		layer = next
	}
	if right < 100 {
		t.Errorf("%d right ones were tried", right)
	}
}

// TestOpsWithWrongParts: the bytes that wrong ops would have; some are those of other ops that are right.
func TestOpsWithWrongParts(t *testing.T) { // P10.1
	for _, o := range wrongOps() {
		wantParse(t, numberOf(5)+numberOf(1)+opBytes(o))
		wantParse(t, numberOf(5)+numberOf(1)+opBytes(o)+textOf(o.Value))
		wantParse(t, numberOf(5)+numberOf(2)+opBytes(o)+opBytes(deleteOf("a")))
		wantParse(t, numberOf(5)+numberOf(2)+opBytes(deleteOf("a"))+opBytes(o))
	}
}

// TestThereAndBack: batches of all sorts, mixed; what Parse reads of their bytes is they, and its bytes are those.
func TestThereAndBack(t *testing.T) { // P10.1, P10.2
	x := uint64(11)
	next := func(n int) int {
		x = x*6364136223846793005 + 1442695040888963407
		return int((x >> 33) % uint64(n))
	}
	letters := "\x00\x01\x02ab\x80\xff"
	text := func(n int) string {
		b := make([]byte, n)
		for i := range b {
			b[i] = letters[next(len(letters))]
		}
		return string(b)
	}
	right := 0
	for range 3000 {
		b := Batch{Seq: next(1<<31) << next(12)}
		for range next(66) {
			o := putOf(text(1+next(1+next(64))), text(next(1+next(200))))
			if next(3) == 0 {
				o = deleteOf(o.Key)
			}
			b.Ops = append(b.Ops, o)
		}
		if isRight(b) {
			right++
		}
		want(t, b)
		wantParse(t, bytesOf(b))
		for range 5 {
			wantFind(t, b, text(next(2)+1))
		}
	}
	if right < 1000 || right == 3000 {
		t.Errorf("%d right ones were tried", right)
	}
}

// wantFind holds Find against the document's words: from the first op on, the last one that has the key stays.
func wantFind(t *testing.T, b Batch, key string) {
	t.Helper()
	var want Op
	there := false
	for _, o := range b.Ops {
		if o.Key == key {
			want, there = o, true
		}
	}
	if o, ok := b.Find(key); o != want || ok != there {
		t.Fatalf("Find(%q): %v, %v; not %v, %v", key, o, ok, want, there)
	}
}

func TestFind(t *testing.T) { // P10.2
	b := Batch{Seq: 3, Ops: []Op{putOf("a", "1"), deleteOf("b"), putOf("b", "2"), putOf("c", "3"), putOf("a", "4"), deleteOf("c"), putOf("d", "")}}
	cases := []struct {
		key   string
		want  Op
		there bool
	}{
		{"a", putOf("a", "4"), true},
		{"b", putOf("b", "2"), true},
		{"c", deleteOf("c"), true},
		{"d", putOf("d", ""), true},
		{"e", Op{}, false},
		{"", Op{}, false},
		{"A", Op{}, false},
		{"aa", Op{}, false},
		{"a\x00", Op{}, false},
		{strings.Repeat("a", 1000), Op{}, false},
	}
	for _, c := range cases {
		if o, ok := b.Find(c.key); o != c.want || ok != c.there {
			t.Errorf("Find(%q): %v, %v", c.key, o, ok)
		}
		wantFind(t, b, c.key)
	}
	for n := range 65 {
		all := Batch{Ops: many(n)}
		for i := range 9 {
			for length := range 7 {
				wantFind(t, all, strings.Repeat(string([]byte{byte(i)}), length))
			}
		}
	}
}

// TestFindInWhatIsNotRight: an op is found there, too, as it is.
func TestFindInWhatIsNotRight(t *testing.T) { // P10.2
	long := strings.Repeat("k", 65)
	b := Batch{Seq: -1, Ops: []Op{putOf("a", "1"), {Kind: 7, Key: "a", Value: "2"}, putOf("", "3"), {Kind: 2, Key: "b", Value: "4"}, putOf(long, "5"), {Kind: -1}}}
	cases := []struct {
		key   string
		want  Op
		there bool
	}{
		{"a", Op{Kind: 7, Key: "a", Value: "2"}, true},
		{"", Op{Kind: -1}, true},
		{"b", Op{Kind: 2, Key: "b", Value: "4"}, true},
		{long, putOf(long, "5"), true},
		{"c", Op{}, false},
	}
	for _, c := range cases {
		if o, ok := b.Find(c.key); o != c.want || ok != c.there {
			t.Errorf("Find(%q): %v, %v", c.key, o, ok)
		}
	}
	for _, b := range []Batch{{}, {Ops: []Op{}}, {Seq: -1}} {
		for _, key := range []string{"", "a", long} {
			if o, ok := b.Find(key); o != (Op{}) || ok {
				t.Errorf("Find(%q) in no ops: %v, %v", key, o, ok)
			}
		}
	}
	if o, ok := (Batch{Ops: []Op{{}}}).Find(""); o != (Op{}) || !ok {
		t.Errorf("Find of the empty op: %v, %v", o, ok)
	}
	wantFind(t, Batch{Ops: many(200)}, "\x03\x03")
	wantFind(t, Batch{Seq: math.MaxInt, Ops: many(2)}, "\x01\x01")
}

// roomy: ops with spare room behind them, which has an op of its own.
func roomy(ops []Op) []Op {
	return append(slices.Clone(ops), putOf("spare", "room"))[:len(ops)]
}

// TestAskingChangesNothing: no call changes the ops, nor the room behind them, and each tells the same again.
func TestAskingChangesNothing(t *testing.T) { // P10.3
	for _, was := range []Batch{example(), {Seq: 1, Ops: many(64)}, {Seq: -1, Ops: many(3)}, {Seq: 1, Ops: wrongOps()}} {
		b := Batch{Seq: was.Seq, Ops: roomy(was.Ops)}
		for range 3 {
			want(t, b)
			wantFind(t, b, "a")
			for _, o := range b.Ops {
				o.Check()
			}
			if !same(b, was) || b.Ops[:len(b.Ops)+1][len(b.Ops)] != putOf("spare", "room") {
				t.Fatalf("%q became %q", brief(was), brief(b))
			}
		}
	}
}

// spoil writes over all that a list has, its spare room too.
func spoil[T any](l []T, with T) {
	for i := range l[:cap(l)] {
		l[:cap(l)][i] = with
	}
}

func TestWhatIsToldIsNewMemory(t *testing.T) { // P10.3
	b := Batch{Seq: 5, Ops: roomy(example().Ops)}
	x, _ := b.Bytes()
	other, _ := b.Bytes()
	spoil(x, 'z')
	if again, _ := b.Bytes(); string(other) != exampleBytes || string(again) != exampleBytes {
		t.Errorf("Bytes: %q, %q", other, again)
	}
	keys, want := b.Keys(), []ikey.Key{{User: "a", Seq: 5, Kind: 1}, {User: "b", Seq: 6, Kind: 2}}
	others := b.Keys()
	spoil(keys, ikey.Key{User: "z"})
	if !slices.Equal(others, want) || !slices.Equal(b.Keys(), want) {
		t.Errorf("Keys: %v, %v", others, b.Keys())
	}
	if !same(b, example()) {
		t.Errorf("the batch became %v", b)
	}
	in := []byte(exampleBytes)
	c, _ := Parse(in)
	d, _ := Parse(in)
	spoil(c.Ops, Op{Kind: 9})
	if e, _ := Parse(in); !same(d, example()) || !same(e, example()) || string(in) != exampleBytes {
		t.Errorf("Parse: %v, %v of %q", d, e, in)
	}
}

func TestWhatIsHandedInIsNotKept(t *testing.T) { // P10.3
	b := Batch{Seq: 5, Ops: roomy(example().Ops)}
	x, _ := b.Bytes()
	keys := b.Keys()
	found, _ := b.Find("a")
	spoil(b.Ops, Op{Kind: 9, Key: "z", Value: "z"})
	if string(x) != exampleBytes || keys[0] != (ikey.Key{User: "a", Seq: 5, Kind: 1}) || found != putOf("a", "x") {
		t.Errorf("%q, %v, %v", x, keys, found)
	}
	room := append([]byte(exampleBytes), "spare"...)
	c, e := Parse(room[:len(exampleBytes)])
	if string(room) != exampleBytes+"spare" || !same(c, example()) || e != api.OK {
		t.Errorf("Parse: %v, %d; then %q", c, e, room)
	}
	spoil(room, 'z')
	if !same(c, example()) {
		t.Errorf("the batch became %v", c)
	}
	back, e := c.Bytes()
	if !bytes.Equal(back, []byte(exampleBytes)) || e != api.OK {
		t.Errorf("Bytes: %q, %d", back, e)
	}
}
