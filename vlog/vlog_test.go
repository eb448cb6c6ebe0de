package vlog

import (
	"fmt"
	"math"
	"slices"
	"strings"
	"testing"

	"tithebarn/api"
	"tithebarn/ikey"
	"tithebarn/reclog"
	"tithebarn/zone"
)

// key: a value's key.
func key(user string, seq int) ikey.Key { return ikey.Key{User: user, Seq: seq, Kind: 1} }

// some: n bytes, which are not the same at each place.
func some(n int) string {
	b := make([]byte, n)
	for i := range b {
		b[i] = byte(n + i*7)
	}
	return string(b)
}

// four: a device of four zones of so many bytes.
func four(size int) zone.Geometry { return zone.Geometry{Zones: 4, Size: size, Open: 4} }

// wrongKeys: keys that are not right, each for one reason or more.
func wrongKeys() []ikey.Key {
	l := []ikey.Key{
		{},
		{User: "", Seq: 1, Kind: 1},
		{User: some(65), Seq: 1, Kind: 1},
		{User: some(5000), Seq: 1, Kind: 1},
		{User: some(65), Seq: -1, Kind: 0},
	}
	for _, seq := range []int{-1, 1<<40 + 1, math.MinInt, math.MaxInt} {
		l = append(l, key("a", seq))
	}
	for _, kind := range []int{0, 4, -1, 257, 255, math.MinInt, math.MaxInt} {
		l = append(l, ikey.Key{User: "a", Seq: 1, Kind: kind})
	}
	return l
}

// rightKeys: keys at the edges of what is right.
func rightKeys() []ikey.Key {
	var l []ikey.Key
	for _, user := range []string{"a", "\x00", "\xff", "a\x00", "\x00\x01", "a\x00\xff", "ab", some(63), some(64), strings.Repeat("\x00", 64)} {
		for _, seq := range []int{0, 1, 255, 256, 1<<40 - 1, 1 << 40} {
			for kind := 1; kind <= 3; kind++ {
				l = append(l, ikey.Key{User: user, Seq: seq, Kind: kind})
			}
		}
	}
	return l
}

// far: numbers that no part of a right pointer is.
func far() []int { return []int{-1, math.MinInt, math.MaxInt, -1 << 32, 1 << 32, 1<<16 + 1} }

// P14.1: each of the three numbers at its edges, and beyond them.
func TestCheck(t *testing.T) {
	right := Pointer{3, 300, 17}
	for _, c := range []struct {
		p    Pointer
		want api.Errno
	}{
		{right, api.OK},
		{Pointer{0, 0, 1}, api.OK},
		{Pointer{63, api.MaxZone, api.MaxZone}, api.OK},
		{Pointer{-1, 300, 17}, api.ErrPointer},
		{Pointer{0, 300, 17}, api.OK},
		{Pointer{63, 300, 17}, api.OK},
		{Pointer{64, 300, 17}, api.ErrPointer},
		{Pointer{3, -1, 17}, api.ErrPointer},
		{Pointer{3, 0, 17}, api.OK},
		{Pointer{3, 65536, 17}, api.OK},
		{Pointer{3, 65537, 17}, api.ErrPointer},
		{Pointer{3, 300, -1}, api.ErrPointer},
		{Pointer{3, 300, 0}, api.ErrPointer},
		{Pointer{3, 300, 1}, api.OK},
		{Pointer{3, 300, 65536}, api.OK},
		{Pointer{3, 300, 65537}, api.ErrPointer},
		{Pointer{}, api.ErrPointer},
	} {
		if e := c.p.Check(); e != c.want {
			t.Errorf("Check of %v: %d, not %d", c.p, e, c.want)
		}
	}
	for _, n := range far() {
		for _, p := range []Pointer{{n, 300, 17}, {3, n, 17}, {3, 300, n}, {n, n, n}} {
			if e := p.Check(); e != api.ErrPointer {
				t.Errorf("Check of %v: %d", p, e)
			}
		}
	}
}

// edges: numbers at the edges of zones, places and lengths, and of how many bytes a number has.
func edges() []int {
	return append(far(), 0, 1, 2, 62, 63, 64, 65, 127, 128, 129, 300, 16383, 16384, 65535, 65536)
}

// P14.1: Check, Text and Parse are held against the model, at all edges at once.
func TestPointers(t *testing.T) {
	for _, z := range edges() {
		for _, at := range edges() {
			for _, n := range edges() {
				heldPointer(t, Pointer{z, at, n})
			}
		}
	}
}

// heldPointer holds Check, Text and Parse of one pointer against the model.
func heldPointer(t *testing.T, p Pointer) {
	t.Helper()
	text, want := "", api.ErrPointer
	if rightPointer(p) {
		text, want = pointerText(p), api.OK
	}
	if e := p.Check(); e != want {
		t.Fatalf("Check of %v: %d, not %d", p, e, want)
	}
	if s, e := p.Text(); s != text || e != want {
		t.Fatalf("Text of %v: %q, %d; not %q, %d", p, s, e, text, want)
	}
	if q, e := Parse(text); want == api.OK && (q != p || e != api.OK) {
		t.Fatalf("Parse(%q): %v, %d; not %v", text, q, e, p)
	}
	if p.Zone >= 0 && p.At >= 0 && p.Len >= 0 {
		heldParse(t, pointerText(p))
	}
}

// heldParse holds Parse of one text against the model.
func heldParse(t *testing.T, s string) {
	t.Helper()
	want, ok := pointerIn(s)
	p, e := Parse(s)
	if ok && (p != want || e != api.OK) || !ok && (p != Pointer{} || e != api.ErrPointer) {
		t.Fatalf("Parse(%q): %v, %d; not %v, %t", s, p, e, want, ok)
	}
}

// P14.1: the bytes are the three numbers, and nothing else.
func TestTextIsNumbers(t *testing.T) {
	for _, c := range []struct {
		p    Pointer
		want string
	}{
		{Pointer{0, 0, 1}, "\x00\x00\x01"},
		{Pointer{3, 300, 17}, "\x03\xac\x02\x11"},
		{Pointer{63, 127, 128}, "\x3f\x7f\x80\x01"},
		{Pointer{63, 65536, 65536}, "\x3f\x80\x80\x04\x80\x80\x04"},
	} {
		if s, e := c.p.Text(); s != c.want || e != api.OK {
			t.Errorf("Text of %v: %q, %d; not %q", c.p, s, e, c.want)
		}
		if p, e := Parse(c.want); p != c.p || e != api.OK {
			t.Errorf("Parse(%q): %v, %d; not %v", c.want, p, e, c.p)
		}
	}
}

// P14.1: what is not the bytes of a right pointer.
func TestParseWrong(t *testing.T) {
	ten := strings.Repeat("\xff", 9) + "\x01"
	nine := strings.Repeat("\xff", 8) + "\x7f"
	for _, s := range []string{
		"", "\x00", "\x03\x00", "\x03\x00\x80", "\x80", "\x80\x80\x80",
		"\x03\x00\x00", "\x40\x00\x01", "\x03\x81\x80\x04\x01", "\x03\x00\x81\x80\x04",
		"\x03\x00\x01\x00", "\x03\x00\x01\x80", "\x03\x00\x01\x03\x00\x01",
		"\x83\x00\x00\x01", "\x03\x80\x00\x01", "\x03\x00\x81\x00", "\x03\xac\x82\x00\x11", "\x03\x00\x81\x80\x00",
		ten + "\x00\x01", "\x03" + ten + "\x01", "\x03\x00" + ten,
		nine + "\x00\x01", "\x03" + nine + "\x01", "\x03\x00" + nine,
		strings.Repeat("\x80", 1000), strings.Repeat("\x01", 1000),
	} {
		if p, e := Parse(s); p != (Pointer{}) || e != api.ErrPointer {
			t.Errorf("Parse(%q): %v, %d", s, p, e)
		}
	}
}

// P14.1: a right pointer's bytes, cut off at each of them, with a byte more behind, and with each byte turned.
func TestParseTurned(t *testing.T) {
	for _, p := range []Pointer{{0, 0, 1}, {3, 300, 17}, {63, 65536, 65536}, {63, 16384, 128}} {
		s := pointerText(p)
		for i := range len(s) {
			if q, e := Parse(s[:i]); q != (Pointer{}) || e != api.ErrPointer {
				t.Errorf("Parse(%q): %v, %d", s[:i], q, e)
			}
		}
		for c := range 256 {
			one := string([]byte{byte(c)})
			if q, e := Parse(s + one); q != (Pointer{}) || e != api.ErrPointer {
				t.Errorf("Parse(%q): %v, %d", s+one, q, e)
			}
			for i := range len(s) {
				heldParse(t, s[:i]+one+s[i+1:])
				heldParse(t, s[:i]+one+s[i:])
			}
		}
	}
}

// P14.1: all texts of few bytes of some kinds.
func TestParseAll(t *testing.T) {
	kinds := []byte{0, 1, 2, 63, 64, 127, 128, 129, 130, 255}
	texts := []string{""}
	for range 5 {
		var longer []string
		for _, s := range texts {
			for _, c := range kinds {
				longer = append(longer, s+string([]byte{c}))
			}
		}
		for _, s := range longer {
			heldParse(t, s)
		}
		texts = longer
	}
}

// P14.1: no two right pointers have the same bytes, as each one comes back from its own.
func TestPointersComeBack(t *testing.T) {
	next := chance(7)
	for range 20000 {
		p := Pointer{next(64), next(1<<16 + 1), 1 + next(1<<16)}
		s, e := p.Text()
		q, f := Parse(s)
		if e != api.OK || f != api.OK || q != p {
			t.Fatalf("%v: %q, %d, %v, %d", p, s, e, q, f)
		}
	}
}

// The chapter's examples.
func TestExamples(t *testing.T) {
	s := newStore(t, four(64), 3)
	s.puts(key("a", 1), "hello", Pointer{3, 0, 17})
	if v := s.get(Pointer{3, 0, 17}, key("a", 2), api.ErrPointer); v != "" {
		t.Errorf("Get: %q", v)
	}
}

// P14.2: the record is two texts, the bytes of the key and the value, and stands in the zone in a frame.
func TestPutLaysRecord(t *testing.T) {
	s := newStore(t, four(64), 3)
	s.puts(key("a", 1), "hello", Pointer{3, 0, 17})
	record := "\x0aa\x00\x01\x00\xff\xff\xff\xff\xff\xfe\x05hello"
	if want := string(reclog.Frame([]byte(record))); s.bytesOf(3) != want {
		t.Errorf("zone 3: %q, not %q", s.bytesOf(3), want)
	}
	if n := Size(key("a", 1), "hello"); n != 22 {
		t.Errorf("Size: %d", n)
	}
}

// P14.2: keys at the edges of what is right, of all kinds.
func TestPutRightKeys(t *testing.T) {
	for _, k := range rightKeys() {
		for _, v := range []string{"", "v", "\x00", some(200)} {
			s := newStore(t, four(512), 1, 2)
			s.put(k, v, api.OK)
			s.put(k, v+"x")
		}
	}
}

// P14.2: keys that are not right are told ahead of all else, and change nothing.
func TestPutWrongKeys(t *testing.T) {
	for _, k := range wrongKeys() {
		s := newStore(t, four(64), 3)
		s.put(k, "hello", api.ErrKey)
		s.put(k, some(1000), api.ErrKey)
		s.both(func(d *zone.Device, l *reclog.Log) { d.Append(3, make([]byte, 64)) })
		s.put(k, "", api.ErrKey)
		s.noPower()
		s.put(k, "", api.ErrKey)
		none := newStore(t, four(64))
		none.put(k, "hello", api.ErrKey)
	}
}

// P14.2: layer 9's errors, in its order; none changes anything.
func TestPutErrors(t *testing.T) {
	none := newStore(t, four(64))
	none.put(key("a", 1), "hello", api.ErrNoZone)
	none.put(key("a", 1), some(64), api.ErrTooLarge)

	s := newStore(t, four(64), 3)
	s.put(key("a", 1), some(48), api.ErrTooLarge)
	s.put(key("a", 1), "hello", api.OK)
	s.put(key("a", 2), some(30), api.ErrFull)
	s.both(func(d *zone.Device, l *reclog.Log) { d.Finish(3) })
	s.put(key("a", 2), "", api.ErrFull)
	s.put(key("a", 1), some(48), api.ErrTooLarge)

	gone := newStore(t, four(64), 4)
	gone.put(key("a", 1), "", api.ErrFull)

	open := newStore(t, zone.Geometry{Zones: 4, Size: 64, Open: 1}, 2)
	open.raw(0, "x")
	open.put(key("a", 1), "", api.ErrOpen)
	open.both(func(d *zone.Device, l *reclog.Log) { d.Finish(0) })
	open.put(key("a", 1), "", api.OK)
}

// P14.2: on a device that has lost its power nothing is laid; bytes of the command at which it went may stand there behind a crash.
func TestPutPower(t *testing.T) {
	s := newStore(t, four(100), 3)
	s.put(key("a", 1), "hello", api.OK)
	s.both(func(d *zone.Device, l *reclog.Log) { l.Sync() })
	s.both(func(d *zone.Device, l *reclog.Log) { d.Arm(0) })
	s.put(key("b", 2), "there", api.ErrDown)
	s.put(key("b", 2), "there", api.ErrDown)
	s.put(key("b", 2), some(40), api.ErrFull)
	s.put(key("b", 2), some(100), api.ErrTooLarge)
	s.get(Pointer{3, 0, 17}, key("a", 1), api.ErrDown)
	s.get(Pointer{3, 0, 0}, key("a", 1), api.ErrPointer)
	s.get(Pointer{9, 0, 1}, key("a", 1), api.ErrDown)
	s.list(3, api.ErrDown)
	s.list(4, api.ErrDown)
	s.crash(0, 0, 0, 21)
	s.lists(3, Value{key("a", 1), "hello", Pointer{3, 0, 17}})
	s.get(Pointer{3, 22, 17}, key("b", 2), api.ErrRange)

	whole := newStore(t, four(64), 3)
	whole.both(func(d *zone.Device, l *reclog.Log) { d.Arm(0) })
	whole.put(key("b", 2), "there", api.ErrDown)
	whole.crash(0, 0, 0, 22)
	whole.found(Pointer{3, 0, 17}, key("b", 2), "there")
}

// P14.2: a value that just fills the zone's room, and one with a byte more.
func TestPutFills(t *testing.T) {
	for _, size := range []int{64, 200, 1000, 20000, api.MaxZone} {
		s := newStore(t, four(size), 1)
		s.put(key("a", 1), "hello", api.OK)
		n := s.l.Room()
		for Size(key("b", 2), some(n)) > s.l.Room() {
			n--
		}
		s.put(key("b", 2), some(n+1), api.ErrFull)
		s.put(key("b", 2), some(n), api.OK)
		if s.l.Room() == 0 {
			s.put(key("b", 3), "", api.ErrFull)
		}
	}
	s := newStore(t, four(64), 1)
	s.put(key("b", 2), some(48), api.ErrTooLarge)
	s.puts(key("b", 2), some(47), Pointer{1, 0, 59})
	if s.l.Room() != 0 || s.d.State(1) != 2 {
		t.Errorf("room %d, state %d", s.l.Room(), s.d.State(1))
	}
	s.put(key("b", 3), "", api.ErrFull)
}

// P14.2: several values behind each other in one zone, and in several zones: each is found by its own pointer and its own key only.
func TestPutSeveral(t *testing.T) {
	s := newStore(t, four(300), 2)
	var all []Value
	for i := range 40 {
		k, v := key(fmt.Sprint("k", i%5), i), some(i%23)
		if Size(k, v) > s.l.Room() {
			next := []int{0, 3, 1}[len(s.l.Zones())-1]
			s.both(func(d *zone.Device, l *reclog.Log) { l.Grow(next) })
		}
		all = append(all, Value{k, v, s.put(k, v, api.OK)})
	}
	if len(s.l.Zones()) < 3 {
		t.Fatalf("zones: %v", s.l.Zones())
	}
	for _, a := range all {
		for _, b := range all {
			if a != b {
				s.get(a.At, b.Key, api.ErrPointer)
			}
		}
		s.gets(a.At, a.Key, a.Text)
	}
	for z := range 4 {
		var want []Value
		for _, a := range all {
			if a.At.Zone == z {
				want = append(want, a)
			}
		}
		s.lists(z, want...)
	}
}

// P14.2: one key may be put again, with another value: each pointer leads to its own.
func TestPutAgain(t *testing.T) {
	s := newStore(t, four(200), 0)
	p := s.put(key("a", 1), "one", api.OK)
	q := s.put(key("a", 1), "two", api.OK)
	r := s.put(key("a", 1), "one", api.OK)
	s.gets(p, key("a", 1), "one")
	s.gets(q, key("a", 1), "two")
	s.gets(r, key("a", 1), "one")
	s.lists(0, Value{key("a", 1), "one", p}, Value{key("a", 1), "two", q}, Value{key("a", 1), "one", r})
}

// P14.2: Size is how much less room there is behind Put; 0, if the key is not right.
func TestSize(t *testing.T) {
	lengths := []int{0, 1, 2, 100, 113, 114, 115, 116, 117, 126, 127, 128, 129, 255, 256, 4096, 16365, 16366, 16367, 16368, 16369, 16370, 16371, 16383, 16384, 16385, 60000}
	for _, n := range lengths {
		for _, k := range []ikey.Key{key("a", 1), key(some(64), 1), key(strings.Repeat("\x00", 60), 0), key(strings.Repeat("\x00", 64), 1<<40)} {
			d := zone.New(four(api.MaxZone))
			l := reclog.New(d, 2)
			if _, e := Put(l, k, some(n)); e != api.OK {
				t.Fatalf("Put of %d bytes: %d", n, e)
			}
			want := api.MaxZone - l.Room()
			if got := Size(k, some(n)); got != want || got != len(reclog.Frame([]byte(recordText(k, some(n))))) {
				t.Errorf("Size(%v, %d bytes): %d, not %d", k, n, got, want)
			}
		}
	}
	for _, k := range wrongKeys() {
		for _, v := range []string{"", "hello", some(70000)} {
			if n := Size(k, v); n != 0 {
				t.Errorf("Size(%v, %d bytes): %d", k, len(v), n)
			}
		}
	}
}

// P14.2: Size of values that no zone has room for.
func TestSizeGreat(t *testing.T) {
	for _, n := range []int{1 << 16, 1 << 20, 1<<21 - 20, 1<<21 - 1, 1 << 21, 1 << 22} {
		v := strings.Repeat("v", n)
		if got, want := Size(key("a", 1), v), len(reclog.Frame([]byte(recordText(key("a", 1), v)))); got != want {
			t.Errorf("Size of %d bytes: %d, not %d", n, got, want)
		}
		s := newStore(t, four(api.MaxZone), 1)
		s.put(key("a", 1), v, api.ErrTooLarge)
	}
}

// P14.2: the key with its user, number or kind turned is another one.
func TestGetOtherKeys(t *testing.T) {
	s := newStore(t, four(300), 3)
	k := ikey.Key{User: "ab", Seq: 5, Kind: 2}
	p := s.put(k, "hello", api.OK)
	others := []ikey.Key{
		{User: "a", Seq: 5, Kind: 2}, {User: "abc", Seq: 5, Kind: 2}, {User: "aB", Seq: 5, Kind: 2}, {User: "ba", Seq: 5, Kind: 2},
		{User: "ab", Seq: 4, Kind: 2}, {User: "ab", Seq: 6, Kind: 2}, {User: "ab", Seq: 5 + 1<<32, Kind: 2},
		{User: "ab", Seq: 5, Kind: 1}, {User: "ab", Seq: 5, Kind: 3}, {User: "ab", Seq: 5, Kind: 258},
		{User: "ab\x00", Seq: 5, Kind: 2},
	}
	for _, o := range append(others, wrongKeys()...) {
		s.get(p, o, api.ErrPointer)
	}
	s.gets(p, k, "hello")
}

// P14.2: pointers that are not right are told ahead of all else.
func TestGetWrongPointers(t *testing.T) {
	s := newStore(t, four(64), 3)
	s.put(key("a", 1), "hello", api.OK)
	wrong := []Pointer{{}, {-1, 0, 17}, {64, 0, 17}, {3, -1, 17}, {3, 65537, 17}, {3, 0, 0}, {3, 0, -1}, {3, 0, 65537}}
	for _, n := range far() {
		wrong = append(wrong, Pointer{n, 0, 17}, Pointer{3, n, 17}, Pointer{3, 0, n}, Pointer{n, n, n})
	}
	for _, p := range wrong {
		s.get(p, key("a", 1), api.ErrPointer)
		s.get(p, ikey.Key{}, api.ErrPointer)
	}
	s.noPower()
	for _, p := range wrong {
		s.get(p, key("a", 1), api.ErrPointer)
	}
	s.get(Pointer{3, 0, 17}, ikey.Key{}, api.ErrDown)
}

// P14.2: pointers that are right, but lead to where the value is not.
func TestGetElsewhere(t *testing.T) {
	s := newStore(t, four(200), 3)
	p := s.put(key("a", 1), "hello", api.OK)
	q := s.put(key("b", 2), "", api.OK)
	r := s.put(key("c", 3), some(60), api.OK)
	x := s.record("no value")
	end := s.d.Pointer(3)
	k := key("b", 2)
	for at := range end {
		if at != q.At {
			s.get(Pointer{3, at, q.Len}, k)
		}
	}
	s.get(Pointer{3, q.At + 1, q.Len}, k, api.ErrSum)
	s.get(Pointer{3, q.At - 1, q.Len}, k, api.ErrSum)
	s.get(Pointer{3, q.At, q.Len - 1}, k, api.ErrSum)
	s.get(Pointer{3, q.At, q.Len + 1}, k, api.ErrSum)
	s.get(Pointer{3, q.At, p.Len}, k, api.ErrSum)
	s.get(Pointer{3, p.At, q.Len}, k, api.ErrSum)
	s.get(p, k, api.ErrPointer)
	s.get(r, k, api.ErrPointer)
	s.get(x, k, api.ErrPointer)
	s.get(Pointer{3, end, 1}, k, api.ErrRange)
	s.get(Pointer{3, end + 1, 1}, k, api.ErrRange)
	s.get(Pointer{3, api.MaxZone, api.MaxZone}, k, api.ErrRange)
	s.get(Pointer{3, q.At, api.MaxZone}, k, api.ErrRange)
	s.get(Pointer{2, q.At, q.Len}, k, api.ErrRange)
	s.get(Pointer{4, q.At, q.Len}, k, api.ErrRange)
	s.get(Pointer{63, 0, 1}, k, api.ErrRange)
	for n := 1; n < 200; n++ {
		s.get(Pointer{3, q.At, n}, k)
		s.get(Pointer{3, r.At, n}, key("c", 3))
	}
	s.gets(q, k, "")
	s.gets(r, key("c", 3), some(60))
}

// P14.2: a value is found through another log of the device, as it is the device that has it.
func TestGetOtherLog(t *testing.T) {
	s := newStore(t, four(64), 3)
	p := s.put(key("a", 1), "hello", api.OK)
	for _, zones := range [][]int{{}, {0}, {3}, {1, 2}} {
		if v, e := Get(reclog.New(s.d, zones...), p, key("a", 1)); v != "hello" || e != api.OK {
			t.Errorf("Get by a log of %v: %q, %d", zones, v, e)
		}
	}
}

// nearly: records that are no value's, though they look like it.
func nearly() []string {
	k := key("a", 1)
	good := keyOf(k)
	l := []string{
		"", "\x00", "no value", "\x00\x00", textOf(good), textOf(good) + "\x05hell", textOf(good) + "\x05",
		textOf(good) + textOf("hello") + "\x00", textOf(good) + textOf("hello") + textOf(""),
		textOf("") + textOf("hello"), textOf("") + textOf(good) + textOf("hello"), textOf("hello") + textOf(good),
		good + "hello", good + textOf("hello"), textOf(good) + "hello", textOf("a") + textOf("hello"),
		"\x8a\x00" + good + textOf("hello"), textOf(good) + "\x85\x00hello", textOf(good) + "\x80\x00",
		textOf(good[:len(good)-1]) + textOf("hello"), textOf(good+"\x00") + textOf("hello"),
		textOf("a\x00"+good[2:]) + textOf("hello"), textOf("a\x00b"+good[1:]) + textOf("hello"),
		textOf("a\x00\xff") + textOf("hello"), textOf("\x00\x01") + textOf("hello"),
		textOf(good) + strings.Repeat("\xff", 9) + "\x01", strings.Repeat("\xff", 9) + "\x01" + good,
		textOf(good) + strings.Repeat("\xff", 8) + "\x7f", strings.Repeat("\xff", 8) + "\x7f" + good,
	}
	for _, wrong := range wrongKeys() {
		l = append(l, textOf(keyOf(wrong))+textOf("hello"))
	}
	return l
}

// isValue: a record is a value's (of a number that is out of range, some have the bytes of one that is not).
func isValue(record string) bool {
	_, _, ok := valueIn(record)
	return ok
}

// P14.2, P14.3: a record that is no value's has none, whatever key it is asked for; behind and ahead of it the values are listed.
func TestNoValues(t *testing.T) {
	count := 0
	for _, r := range nearly() {
		if len(r) > 300 || isValue(r) {
			continue
		}
		count++
		s := newStore(t, four(512), 3)
		p := s.put(key("a", 1), "hello", api.OK)
		x := s.record(r)
		q := s.put(key("a", 2), "there", api.OK)
		y := s.record(r)
		for _, k := range append(wrongKeys(), key("a", 1), key("a", 2), key("a\x00b", 1)) {
			s.get(x, k, api.ErrPointer)
			s.get(y, k, api.ErrPointer)
		}
		s.lists(3, Value{key("a", 1), "hello", p}, Value{key("a", 2), "there", q})
	}
	if count < 30 {
		t.Errorf("%d records", count)
	}
}

// P14.2, P14.3: a record cut off at each byte, with bytes behind it, and with each byte turned, as a record of its own: it is no value's or another's.
func TestRecordTurned(t *testing.T) {
	for _, k := range []ikey.Key{key("a", 1), {User: "a\x00b", Seq: 1 << 40, Kind: 3}} {
		good := recordText(k, "hello")
		var l []string
		for i := range len(good) {
			l = append(l, good[:i], good[i:]+good[:i], good+good[:i+1])
			for _, c := range []byte{0, 1, 2, 9, 10, 127, 128, 252, 253, 254, 255, good[i] - 1, good[i] + 1} {
				l = append(l, good[:i]+string([]byte{c})+good[i+1:], good[:i]+string([]byte{c})+good[i:])
			}
		}
		for _, r := range l {
			s := newStore(t, four(512), 3)
			x := s.record(r)
			v := s.get(x, k)
			if r != good && v != "" && r != recordText(k, v) {
				t.Fatalf("Get of %q: %q", r, v)
			}
			s.list(3)
		}
	}
}

// P14.2, P14.3: bytes of a zone that are spoilt: Get tells ErrSum, List ends there.
func TestSpoilt(t *testing.T) {
	k, frame := key("a", 1), string(reclog.Frame([]byte(recordText(key("a", 1), "hello"))))
	for i := range len(frame) {
		for _, c := range []byte{1, 128, 255} {
			bad := []byte(frame)
			bad[i] ^= c
			s := newStore(t, four(128), 3)
			s.raw(3, frame+string(bad)+frame)
			s.get(Pointer{3, len(frame), 17}, k, api.ErrSum)
			s.lists(3, Value{k, "hello", Pointer{3, 0, 17}})
			s.gets(Pointer{3, 2 * len(frame), 17}, k, "hello")
		}
	}
}

// P14.3: zones without bytes, and such as there are none of.
func TestListNothing(t *testing.T) {
	s := newStore(t, four(64), 3)
	for z := range 4 {
		s.lists(z)
	}
	for _, z := range []int{-1, 4, 63, 64, math.MinInt, math.MaxInt, 1 << 32, -1 << 32} {
		s.list(z, api.ErrRange)
	}
	s.raw(2, "")
	s.lists(2)
	s.noPower()
	for _, z := range []int{-1, 0, 3, 4} {
		s.list(z, api.ErrDown)
	}
}

// P14.3: other records stand ahead of the values, between them and behind them; each counts for where the next one begins.
func TestListAmong(t *testing.T) {
	s := newStore(t, four(1000), 1)
	s.record("ahead")
	p := s.put(key("b", 1), "one", api.OK)
	s.record("")
	s.record(some(200))
	q := s.put(key("a", 2), "", api.OK)
	s.record("behind")
	r := s.put(key("b", 1), some(130), api.OK)
	s.record("last")
	s.lists(1, Value{key("b", 1), "one", p}, Value{key("a", 2), "", q}, Value{key("b", 1), some(130), r})
	if p.At != 10 || q.At != 10+20+5+206 || r.At != q.At+17+11 {
		t.Errorf("places: %v, %v, %v", p, q, r)
	}
	s.both(func(d *zone.Device, l *reclog.Log) { d.Finish(1) })
	s.lists(1, Value{key("b", 1), "one", p}, Value{key("a", 2), "", q}, Value{key("b", 1), some(130), r})
	s.both(func(d *zone.Device, l *reclog.Log) { d.Reset(1) })
	s.lists(1)
}

// P14.3: only other records, only torn bytes.
func TestListNoValues(t *testing.T) {
	s := newStore(t, four(100), 1)
	s.record("no value")
	s.record("")
	s.lists(1)
	s.raw(2, "torn bytes")
	s.lists(2)
	frame := string(reclog.Frame([]byte(recordText(key("a", 1), "hello"))))
	s.raw(0, "x"+frame)
	s.lists(0)
}

// P14.3: a record at the end is cut off at each of its bytes.
func TestListCutOff(t *testing.T) {
	frame := string(reclog.Frame([]byte(recordText(key("b", 2), "there"))))
	for n := range len(frame) + 1 {
		s := newStore(t, four(100), 1)
		want := []Value{{key("a", 1), "hello", s.put(key("a", 1), "hello", api.OK)}}
		s.raw(1, frame[:n])
		if n == len(frame) {
			want = append(want, Value{key("b", 2), "there", Pointer{1, 22, 17}})
		}
		s.lists(1, want...)
		s.get(Pointer{1, 22, 17}, key("b", 2))
	}
}

// P14.3: a zone's values are listed whatever logs there are, and those of a full zone, too.
func TestListFull(t *testing.T) {
	s := newStore(t, four(220), 0)
	var want []Value
	for i := range 10 {
		k := key("a", i)
		want = append(want, Value{k, "hello", s.put(k, "hello", api.OK)})
	}
	if s.d.State(0) != 2 {
		t.Errorf("state %d", s.d.State(0))
	}
	s.lists(0, want...)
	if l, e := List(s.d, 0); len(l) != 10 || e != api.OK {
		t.Errorf("List: %d values, %d", len(l), e)
	}
}

// P14.4: no two answers share memory, spare room neither; who spoils one spoils no other, and not the device.
func TestNewMemory(t *testing.T) {
	s := newStore(t, four(1000), 1)
	for i := range 11 {
		s.put(key("a", i), "hello", api.OK)
	}
	first := s.list(1, api.OK)
	want := slices.Clone(first)
	second := s.list(1, api.OK)
	spoil := second[:cap(second)]
	for i := range spoil {
		spoil[i] = Value{key("spoilt", 9), "spoilt", Pointer{9, 9, 9}}
	}
	if !slices.Equal(first, want) {
		t.Errorf("spoilt: %v", first)
	}
	s.lists(1, want...)
	v := s.get(want[0].At, want[0].Key, api.OK)
	s.both(func(d *zone.Device, l *reclog.Log) {
		d.Reset(1)
		d.Append(1, make([]byte, 500))
	})
	if v != "hello" || !slices.Equal(first, want) {
		t.Errorf("spoilt: %q, %v", v, first)
	}
}

// P14.4: what is told beside an error is nothing, and asking changes nothing.
func TestAskingChangesNothing(t *testing.T) {
	s := newStore(t, four(200), 3)
	p := s.put(key("a", 1), "hello", api.OK)
	s.record("no value")
	done := s.d.Done()
	for range 3 {
		s.get(p, key("a", 1), api.OK)
		s.get(p, key("a", 2), api.ErrPointer)
		s.get(Pointer{3, 1, 17}, key("a", 1), api.ErrSum)
		s.get(Pointer{9, 1, 17}, key("a", 1), api.ErrRange)
		for z := -1; z < 5; z++ {
			s.list(z)
		}
		Size(key("a", 1), "hello")
		s.same("asking")
	}
	if s.d.Done() != done {
		t.Errorf("commands: %d, not %d", s.d.Done(), done)
	}
}

// P1: nothing panics at the least and the greatest numbers, and at bytes of any kind.
func TestAnyArguments(t *testing.T) {
	s := newStore(t, zone.Geometry{Zones: 64, Size: 64, Open: 2}, 63)
	s.put(key("a", 1), "hello", api.OK)
	numbers := append(edges(), 17, math.MinInt+1, math.MaxInt-1)
	for _, z := range numbers {
		s.list(z)
		for _, at := range numbers {
			for _, n := range numbers {
				s.get(Pointer{z, at, n}, key("a", 1))
			}
		}
	}
	for _, seq := range numbers {
		for _, kind := range numbers {
			s.put(ikey.Key{User: "a", Seq: seq, Kind: kind}, "")
		}
	}
}

// chance: numbers that are the same at each run.
func chance(seed uint64) func(n int) int {
	return func(n int) int {
		seed = seed*6364136223846793005 + 1442695040888963407
		return int((seed >> 33) % uint64(n))
	}
}

// run: a store on which things are done by chance.
type run struct {
	*store
	next func(n int) int
	put  []Value
}

func (r *run) key() ikey.Key {
	if r.next(20) == 0 {
		l := wrongKeys()
		return l[r.next(len(l))]
	}
	if r.next(10) == 0 {
		l := rightKeys()
		return l[r.next(len(l))]
	}
	return ikey.Key{User: []string{"a", "b", "a\x00", "ab"}[r.next(4)], Seq: r.next(5), Kind: 1 + r.next(3)}
}

// pointer: one that was told, perhaps with one of its numbers turned a little, and the key to it, perhaps another one.
func (r *run) pointer() (Pointer, ikey.Key) {
	if len(r.put) == 0 || r.next(8) == 0 {
		return Pointer{r.next(66) - 1, r.next(300) - 1, r.next(200)}, r.key()
	}
	v := r.put[r.next(len(r.put))]
	switch r.next(10) {
	case 0:
		v.At.Zone += r.next(3) - 1
	case 1:
		v.At.At += r.next(3) - 1
	case 2:
		v.At.Len += r.next(3) - 1
	case 3:
		v.Key = r.key()
	case 4:
		v.At.Len = r.put[r.next(len(r.put))].At.Len
	}
	return v.At, v.Key
}

func (r *run) step() {
	switch r.next(14) {
	case 0, 1, 2, 3, 4:
		k, v := r.key(), some(r.next(60))
		if p := r.store.put(k, v); p != (Pointer{}) {
			r.put = append(r.put, Value{k, v, p})
		}
	case 5, 6, 7, 8:
		r.get(r.pointer())
	case 9:
		z := r.next(6)
		r.both(func(d *zone.Device, l *reclog.Log) { l.Grow(z) })
	case 10:
		l := nearly()
		x := []byte(l[r.next(len(l))])
		r.both(func(d *zone.Device, l *reclog.Log) { l.Append(x) })
	case 11:
		z := r.next(6)
		if r.next(2) == 0 {
			r.both(func(d *zone.Device, l *reclog.Log) { d.Reset(z) })
		} else {
			r.both(func(d *zone.Device, l *reclog.Log) { d.Finish(z) })
		}
	case 12:
		n := r.next(6) - 1
		r.both(func(d *zone.Device, l *reclog.Log) { d.Arm(n) })
	case 13:
		keep := []int{r.next(99), r.next(99), r.next(99), r.next(99), r.next(99)}
		if r.d.Down() || r.next(9) == 0 {
			r.crash(keep...)
		} else {
			r.both(func(d *zone.Device, l *reclog.Log) { l.Sync() })
		}
	}
}

// P14.1 to P14.4: what is done by chance is held against the model, step by step.
func TestRuns(t *testing.T) {
	found, listed, cut := 0, 0, 0
	for seed := range 150 {
		next := chance(uint64(seed))
		g := zone.Geometry{Zones: 5, Size: 100 + next(200), Open: 2 + next(4)}
		r := &run{store: newStore(t, g, next(5)), next: next}
		for range 120 {
			r.step()
			z := next(7) - 1
			l := r.list(z)
			listed += len(l)
			for _, v := range l {
				r.gets(v.At, v.Key, v.Text)
				found++
			}
			if n := len(l); n > 0 && l[n-1].At.At+len(reclog.Frame(make([]byte, l[n-1].At.Len))) < r.d.Pointer(z) {
				cut++
			}
		}
	}
	if found < 1000 || listed < 1000 || cut < 100 {
		t.Errorf("found %d, listed %d, cut %d", found, listed, cut)
	}
}
