package ikey

import (
	"bytes"
	"encoding/binary"
	"math"
	"slices"
	"sort"
	"strings"
	"testing"

	"tithebarn/api"
)

func rightUsers() []string {
	us := []string{
		"\x00", "\x00\x00", "\x00\x01", "\x00\x02", "\x00\xfe", "\x00\xff", "\x00\xff\x00", "\x01", "\x01\x00",
		"a", "a\x00", "a\x00\x00", "a\x00\x01", "a\x00\xff", "a\x01", "a\xff", "aa", "ab", "b", "ba", "\xfe",
		"\xff", "\xff\x00", "\xff\x00\xff", "\xff\xff", "A", "é", "\xc3", "\x80",
	}
	for _, s := range []string{"\x00", "a", "x", "\xff"} {
		for _, n := range []int{2, api.MaxKey - 1, api.MaxKey} {
			us = append(us, strings.Repeat(s, n))
		}
	}
	return us
}

func wrongUsers() []string {
	us := []string{""}
	for _, s := range []string{"\x00", "a", "\xff"} {
		for _, n := range []int{api.MaxKey + 1, api.MaxKey + 2, 2 * api.MaxKey, 1000} {
			us = append(us, strings.Repeat(s, n))
		}
	}
	return us
}

func rightSeqs() []int {
	return []int{0, 1, 2, 255, 256, 65535, 65536, 1 << 24, 1<<32 - 1, 1 << 32, 1 << 39, api.MaxNumber - 256, api.MaxNumber - 255, api.MaxNumber - 1, api.MaxNumber}
}

func wrongSeqs() []int {
	return []int{-1, -2, -255, -256, math.MinInt32, -api.MaxNumber, math.MinInt + 1, math.MinInt, api.MaxNumber + 1, api.MaxNumber + 256, 1 << 41, 1 << 48, math.MaxInt - 1, math.MaxInt}
}

func rightKinds() []int { return []int{1, 2, 3} }

func wrongKinds() []int {
	return []int{0, -1, -2, 4, 5, 254, 255, 256, 257, 258, 259, 260, -253, -254, -255, math.MinInt, math.MaxInt}
}

func keys(users []string, seqs, kinds []int) []Key {
	var ks []Key
	for _, u := range users {
		for _, s := range seqs {
			for _, d := range kinds {
				ks = append(ks, Key{u, s, d})
			}
		}
	}
	return ks
}

func rightKeys() []Key { return keys(rightUsers(), rightSeqs(), rightKinds()) }

// wrongKeys: those that one thing alone makes wrong, and some with more than one.
func wrongKeys() []Key {
	some := []string{"a", "\x00", strings.Repeat("\xff", api.MaxKey)}
	return slices.Concat(
		keys(wrongUsers(), rightSeqs(), rightKinds()),
		keys(some, wrongSeqs(), rightKinds()),
		keys(some, rightSeqs(), wrongKinds()),
		keys([]string{"", "a"}, wrongSeqs(), wrongKinds()),
	)
}

// mixedKeys: fewer of all sorts, so that each can be held against each.
func mixedKeys() []Key {
	users := []string{"", "\x00", "\x00\xff", "a", "a\x00", "a\x00\x01", "a\x01", "aa", "b", "\xff", "\xff\xff", strings.Repeat("a", api.MaxKey), strings.Repeat("a", api.MaxKey+1)}
	seqs := []int{math.MinInt, -1, 0, 1, 2, 256, api.MaxNumber - 1, api.MaxNumber, api.MaxNumber + 1, math.MaxInt}
	return keys(users, seqs, []int{math.MinInt, 0, 1, 2, 3, 4, math.MaxInt})
}

// aheadOf: the document's words on the order of bytes, place by place.
func aheadOf(a, b string) bool {
	for i := 0; i < len(a) && i < len(b); i++ {
		if a[i] != b[i] {
			return a[i] < b[i]
		}
	}
	return len(a) < len(b)
}

func order(k, o Key) int {
	ahead := func(k, o Key) bool {
		if k.User != o.User {
			return aheadOf(k.User, o.User)
		}
		if k.Seq != o.Seq {
			return k.Seq > o.Seq
		}
		return k.Kind > o.Kind
	}
	switch {
	case ahead(k, o):
		return -1
	case ahead(o, k):
		return 1
	}
	return 0
}

func keyBytes(k Key) []byte {
	b := []byte(strings.ReplaceAll(k.User, "\x00", "\x00\xff") + "\x00\x01")
	b = append(b, binary.BigEndian.AppendUint64(nil, uint64(api.MaxNumber-k.Seq))[2:]...)
	return append(b, byte(255-k.Kind))
}

func isRight(k Key) bool {
	return len(k.User) >= 1 && len(k.User) <= 64 && k.Seq >= 0 && k.Seq <= 1<<40 && (k.Kind == 1 || k.Kind == 2 || k.Kind == 3)
}

// parsed takes b apart from its end: the last nine bytes can't be a user's. What comes out counts if it has just b's bytes.
func parsed(b []byte) (Key, bool) {
	at := len(b) - 9
	if at < 0 {
		return Key{}, false
	}
	user := strings.ReplaceAll(string(b[:at]), "\x00\xff", "\x00")
	seq := binary.BigEndian.Uint64(append([]byte{0, 0}, b[at+2:at+8]...))
	k := Key{user, api.MaxNumber - int(seq), 255 - int(b[at+8])}
	if !isRight(k) || !bytes.Equal(keyBytes(k), b) {
		return Key{}, false
	}
	return k, true
}

func wantParse(t *testing.T, b []byte) (right bool) {
	t.Helper()
	was := bytes.Clone(b)
	k, e := Parse(b)
	want, right := parsed(b)
	wantErr := api.OK
	if !right {
		wantErr = api.ErrKey
	}
	if k != want || e != wantErr {
		t.Fatalf("Parse %x: %#v, %d, not %#v, %d", b, k, e, want, wantErr)
	}
	if !bytes.Equal(b, was) {
		t.Fatalf("Parse changed %x to %x", was, b)
	}
	return right
}

func TestCheckOfRightKeys(t *testing.T) { // P3.1
	for _, k := range rightKeys() {
		if e := k.Check(); e != api.OK {
			t.Fatalf("Check %#v: %d", k, e)
		}
	}
}

func TestCheckOfWrongKeys(t *testing.T) { // P3.1
	for _, k := range append(wrongKeys(), Key{}) {
		if e := k.Check(); e != api.ErrKey {
			t.Fatalf("Check %#v: %d", k, e)
		}
	}
}

func TestCmpOfAnyTwo(t *testing.T) { // P3.1
	ks := mixedKeys()
	for _, k := range ks {
		for _, o := range ks {
			if c := k.Cmp(o); c != order(k, o) {
				t.Fatalf("%#v Cmp %#v: %d, not %d", k, o, c, order(k, o))
			}
		}
	}
}

func TestCmpExamples(t *testing.T) { // P3.1
	rising := []Key{
		{"a", 5, 3}, {"a", 5, 1}, {"a", 4, 3}, {"a", 4, 2}, {"a", 4, 1}, {"a", 0, 3},
		{"a\x00", 9, 1}, {"ab", 1, 1}, {"b", api.MaxNumber, 3}, {"b", 1, 1}, {"\xff", 2, 2},
	}
	for i, k := range rising {
		for j, o := range rising {
			want := 0
			if i < j {
				want = -1
			} else if i > j {
				want = 1
			}
			if c := k.Cmp(o); c != want {
				t.Fatalf("%#v Cmp %#v: %d, not %d", k, o, c, want)
			}
		}
	}
}

func TestBytesExamples(t *testing.T) { // P3.2
	cases := []struct {
		key  Key
		text string
	}{
		{Key{"a", 1, 2}, "a\x00\x01\x00\xff\xff\xff\xff\xff\xfd"},
		{Key{"a", 0, 1}, "a\x00\x01\x01\x00\x00\x00\x00\x00\xfe"},
		{Key{"a", api.MaxNumber, 3}, "a\x00\x01\x00\x00\x00\x00\x00\x00\xfc"},
		{Key{"\x00", api.MaxNumber - 258, 1}, "\x00\xff\x00\x01\x00\x00\x00\x00\x01\x02\xfe"},
		{Key{"\xff\x00\x00b", api.MaxNumber - 1, 2}, "\xff\x00\xff\x00\xffb\x00\x01\x00\x00\x00\x00\x00\x01\xfd"},
		{Key{"\x00\x01", api.MaxNumber, 1}, "\x00\xff\x01\x00\x01\x00\x00\x00\x00\x00\x00\xfe"},
	}
	for _, c := range cases {
		if b, e := c.key.Bytes(); string(b) != c.text || e != api.OK {
			t.Fatalf("Bytes of %#v: %x, %d, not %x", c.key, b, e, c.text)
		}
		if k, e := Parse([]byte(c.text)); k != c.key || e != api.OK {
			t.Fatalf("Parse %x: %#v, %d, not %#v", c.text, k, e, c.key)
		}
	}
}

func TestBytesThereAndBack(t *testing.T) { // P3.2
	for _, k := range rightKeys() {
		b, e := k.Bytes()
		if !bytes.Equal(b, keyBytes(k)) || e != api.OK {
			t.Fatalf("Bytes of %#v: %x, %d, not %x", k, b, e, keyBytes(k))
		}
		if o, e := Parse(b); o != k || e != api.OK {
			t.Fatalf("Parse %x: %#v, %d, not %#v", b, o, e, k)
		}
	}
}

func TestBytesOfWrongKeys(t *testing.T) { // P3.2
	for _, k := range append(wrongKeys(), Key{}) {
		if b, e := k.Bytes(); b != nil || e != api.ErrKey {
			t.Fatalf("Bytes of %#v: %x, %d", k, b, e)
		}
	}
}

func TestParseOfTheBytesOfWrongKeys(t *testing.T) { // P3.2
	wrong := slices.Concat(
		keys(wrongUsers(), rightSeqs(), rightKinds()),
		keys([]string{"a"}, []int{-1, -2, -256, api.MaxNumber + 1, 2 * api.MaxNumber, -api.MaxNumber}, rightKinds()),
		keys([]string{"a"}, rightSeqs(), []int{0, 4, 5, 127, 128, 253, 254, 255}),
	)
	for _, k := range wrong {
		if wantParse(t, keyBytes(k)) {
			t.Fatalf("the test takes %#v for right", k)
		}
	}
}

func TestParseOfBytesThatEndTooEarlyOrGoOn(t *testing.T) { // P3.2
	for _, k := range keys([]string{"a", "\x00", "a\x00\xff", strings.Repeat("\x00", api.MaxKey)}, []int{0, 1, api.MaxNumber}, rightKinds()) {
		b := keyBytes(k)
		for n := range b {
			if wantParse(t, b[:n:n]) || wantParse(t, b[:n]) {
				t.Fatalf("the test takes %x for whole", b[:n])
			}
		}
		for c := range 256 {
			if wantParse(t, append(bytes.Clone(b), byte(c))) {
				t.Fatalf("the test takes %x and %d for right", b, c)
			}
		}
		wantParse(t, append(bytes.Clone(b), b...))
	}
	for _, b := range [][]byte{nil, {}, {0}, {0, 1}, {0, 255}, {'a'}, bytes.Repeat([]byte{0}, 1000), bytes.Repeat([]byte{'a'}, 1000)} {
		if wantParse(t, b) {
			t.Fatalf("the test takes %x for right", b)
		}
	}
}

func TestParseWithAnyByteInAnyPlace(t *testing.T) { // P3.2
	for _, k := range keys([]string{"a", "\x00", "b\x00\x01", "\xff\x00"}, []int{0, 1, 258, api.MaxNumber}, rightKinds()) {
		b := keyBytes(k)
		for i := range b {
			for c := range 256 {
				other := bytes.Clone(b)
				other[i] = byte(c)
				wantParse(t, other)
				wantParse(t, slices.Insert(bytes.Clone(b), i, byte(c)))
			}
			wantParse(t, slices.Delete(bytes.Clone(b), i, i+1))
		}
	}
}

func TestParseOfAllShortBeginnings(t *testing.T) { // P3.2
	begins := [][]byte{nil}
	for at := 0; at < len(begins) && len(begins[at]) < 5; at++ {
		for _, c := range []byte{0, 1, 2, 'a', 254, 255} {
			begins = append(begins, append(bytes.Clone(begins[at]), c))
		}
	}
	right := 0
	for _, u := range begins {
		for _, tail := range []string{"", "\x00\x01", "\x00\xff\xff\xff\xff\xff\xfd", "\x00\x01\x00\xff\xff\xff\xff\xff\xfd", "\x00\xff\x00\xff\xff\xff\xff\xff\xfd", "\x00\x01\x01\x00\x00\x00\x00\x01\xfe"} {
			if wantParse(t, append(bytes.Clone(u), tail...)) {
				right++
			}
		}
	}
	if right < 1000 {
		t.Fatalf("%d right ones alone were tried", right)
	}
}

func TestSeek(t *testing.T) { // P3.3
	seqs := append(rightSeqs(), wrongSeqs()...)
	for _, u := range append(rightUsers(), wrongUsers()...) {
		for _, at := range seqs {
			if k := Seek(u, at); k != (Key{u, at, 3}) {
				t.Fatalf("Seek %q, %d: %#v", u, at, k)
			}
		}
	}
}

func TestSeekIsTheFirstOfAUserThatIsSeen(t *testing.T) { // P3.3
	users := []string{"\x00", "a", "a\x00", "ab", "\xff"}
	ks := keys(users, []int{0, 1, 2, 3, api.MaxNumber - 1, api.MaxNumber}, rightKinds())
	slices.SortFunc(ks, order)
	for _, u := range users {
		for _, at := range []int{0, 1, 2, 3, api.MaxNumber - 1, api.MaxNumber} {
			first := sort.Search(len(ks), func(i int) bool { return ks[i].Cmp(Seek(u, at)) >= 0 })
			want := slices.IndexFunc(ks, func(k Key) bool { return k.User == u && k.Sees(at) })
			if first != want {
				t.Fatalf("Seek %q, %d: at %d, not %d", u, at, first, want)
			}
		}
	}
}

func TestSees(t *testing.T) { // P3.3
	seqs := append(rightSeqs(), wrongSeqs()...)
	for _, seq := range seqs {
		for _, at := range seqs {
			for _, k := range []Key{{"a", seq, 1}, {"", seq, 0}, {"a", seq, 3}} {
				if got := k.Sees(at); got != (seq <= at) {
					t.Fatalf("%#v Sees %d: %v", k, at, got)
				}
			}
		}
	}
}

func TestLess(t *testing.T) { // P3.3
	texts := append(rightUsers(), wrongUsers()...)
	for _, a := range texts {
		for _, b := range texts {
			if got := Less([]byte(a), []byte(b)); got != aheadOf(a, b) {
				t.Fatalf("Less %x, %x: %v", a, b, got)
			}
		}
	}
	if Less(nil, nil) || Less(nil, []byte{}) || Less([]byte{}, nil) || !Less(nil, []byte{0}) || Less([]byte{0}, nil) {
		t.Error("Less of no bytes")
	}
	if !Less([]byte{127}, []byte{128}) || Less([]byte{128}, []byte{127}) {
		t.Error("bytes are not from 0 to 255")
	}
}

func TestRightKeysStandInTheOrderOfTheirBytes(t *testing.T) { // P3.4
	ks := keys(rightUsers(), []int{0, 1, 255, 256, 1 << 32, api.MaxNumber - 1, api.MaxNumber}, rightKinds())
	bs := make([][]byte, len(ks))
	for i, k := range ks {
		b, e := k.Bytes()
		if e != api.OK {
			t.Fatalf("Bytes of %#v: %d", k, e)
		}
		bs[i] = b
	}
	for i, k := range ks {
		for j, o := range ks {
			if c := k.Cmp(o); Less(bs[i], bs[j]) != (c < 0) || bytes.Equal(bs[i], bs[j]) != (c == 0) {
				t.Fatalf("%#v Cmp %#v: %d, but %x and %x", k, o, c, bs[i], bs[j])
			}
		}
	}
}

func TestBytesAreNewMemory(t *testing.T) { // P3.5
	k := Key{"a\x00b", 7, 2}
	want := keyBytes(k)
	first, _ := k.Bytes()
	second, _ := k.Bytes()
	for _, b := range [][]byte{first, first[:cap(first)]} {
		for i := range b {
			b[i] ^= 85
		}
	}
	if third, _ := k.Bytes(); !bytes.Equal(second, want) || !bytes.Equal(third, want) {
		t.Fatalf("Bytes: %x, then %x, not %x", second, third, want)
	}
}

func TestParseKeepsNothing(t *testing.T) { // P3.5
	want := Key{"a\x00b", 7, 2}
	room := append(keyBytes(want), "spare"...)
	b := room[:len(room)-len("spare")]
	k, e := Parse(b)
	if k != want || e != api.OK || string(room[len(b):]) != "spare" {
		t.Fatalf("Parse: %#v, %d, %q behind it", k, e, room[len(b):])
	}
	for i := range room {
		room[i] = 'z'
	}
	if k != want {
		t.Fatalf("the key became %#v", k)
	}
}

func TestAskingChangesNothing(t *testing.T) { // P1, P3.5
	k, o := Key{"a\x00", 7, 2}, Key{"b", 9, 1}
	a, b := append([]byte("ab"), 0)[:2], append([]byte("abc"), 0)[:3]
	for range 3 {
		if k.Check() != api.OK || k.Cmp(o) != -1 || o.Cmp(k) != 1 || !k.Sees(7) || k.Sees(6) || !Less(a, b) || Less(b, a) {
			t.Error("another answer")
		}
	}
	if k != (Key{"a\x00", 7, 2}) || o != (Key{"b", 9, 1}) || string(a[:3]) != "ab\x00" || string(b[:4]) != "abc\x00" {
		t.Error("asking changed what it was given")
	}
}
