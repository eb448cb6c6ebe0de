package block

import (
	"bytes"
	"math"
	"slices"
	"sort"
	"strconv"
	"strings"
	"testing"

	"tithebarn/api"
)

func pairOf(k, v string) Pair { return Pair{Key: k, Value: v} }

// chance: numbers that look like any, the same in each run.
type chance struct{ state uint64 }

func (c *chance) below(n int) int {
	c.state = c.state*6364136223846793005 + 1442695040888963407
	return int(c.state>>33) % n
}

// modelNumber: groups of seven bits, the lowest first, 128 more where another one follows.
func modelNumber(n int) []byte {
	var b []byte
	for n >= 128 {
		b = append(b, byte(128+n%128))
		n /= 128
	}
	return append(b, byte(n))
}

// modelWord: four bytes, the highest first.
func modelWord(n int) []byte {
	return []byte{byte(n / 16777216), byte(n / 65536), byte(n / 256), byte(n)}
}

// modelShared: the greatest number of bytes that begin both.
func modelShared(a, b string) int {
	n := min(len(a), len(b))
	for !strings.HasPrefix(a, b[:n]) {
		n--
	}
	return n
}

func rise(l []Pair) bool {
	for i := range l {
		if i > 0 && strings.Compare(l[i-1].Key, l[i].Key) != -1 {
			return false
		}
	}
	return true
}

// modelBytes: the bytes of pairs that are in order, just as the chapter words them.
func modelBytes(l []Pair, every int) []byte {
	var b, places []byte
	restarts := 0
	for i, p := range l {
		shared := 0
		if i%every == 0 {
			places = append(places, modelWord(len(b))...)
			restarts++
		} else {
			shared = modelShared(l[i-1].Key, p.Key)
		}
		b = append(b, rawPair(shared, p.Key[shared:], p.Value)...)
	}
	b = append(b, places...)
	b = append(b, modelWord(restarts)...)
	return append(b, byte(every))
}

// rawPair: the bytes of a pair that says what it says.
func rawPair(shared int, own, value string) []byte {
	b := slices.Concat(modelNumber(shared), modelNumber(len(own)), modelNumber(len(value)))
	return slices.Concat(b, []byte(own), []byte(value))
}

func modelBuild(l []Pair, every int) ([]byte, api.Errno) {
	if every < 1 || every > 64 {
		return nil, api.ErrRange
	}
	if !rise(l) {
		return nil, api.ErrOrder
	}
	return modelBytes(l, every), api.OK
}

// taken: the number at b's beginning, and what is behind it; of one in a long form, too.
func taken(b []byte) (n int, rest []byte, ok bool) {
	for i := range min(len(b), 9) {
		n += int(b[i]%128) << (7 * i)
		if b[i] < 128 {
			return n, b[i+1:], true
		}
	}
	return 0, nil, false
}

// modelOpen: what pairs b can be of, each of which is read as it says; they are the ones, if b is their bytes.
func modelOpen(b []byte) ([]Pair, int, bool) {
	if len(b) < 5 {
		return nil, 0, false
	}
	every := int(b[len(b)-1])
	if every < 1 || every > 64 {
		return nil, 0, false
	}
	rest := b
	var l []Pair
	for at := 0; at+5 <= len(b); {
		if again := modelBytes(l, every); len(again) == len(b) {
			return l, every, rise(l) && bytes.Equal(again, b)
		}
		shared, behind, ok := taken(rest)
		if !ok {
			return nil, 0, false
		}
		own, behind, ok := taken(behind)
		if !ok {
			return nil, 0, false
		}
		value, behind, ok := taken(behind)
		if !ok || own > len(behind) || value > len(behind)-own {
			return nil, 0, false
		}
		key := ""
		if len(l) > 0 {
			key = l[len(l)-1].Key
		}
		if shared > len(key) {
			return nil, 0, false
		}
		l = append(l, pairOf(key[:shared]+string(behind[:own]), string(behind[own:own+value])))
		rest = behind[own+value:]
		at = len(b) - len(rest)
	}
	return nil, 0, false
}

// samples: lists in order, of all the kinds that the chapter's edges name.
func samples() map[string][]Pair {
	all := map[string][]Pair{
		"none":            nil,
		"the empty pair":  {pairOf("", "")},
		"one":             {pairOf("a", "1")},
		"empty key first": {pairOf("", "0"), pairOf("ab", "1"), pairOf("abc", "2"), pairOf("abd", ""), pairOf("b", "3")},
		"beginnings":      {pairOf("a", ""), pairOf("aa", "x"), pairOf("aaa", ""), pairOf("aaaa", "y"), pairOf("aaaab", "z"), pairOf("aaaabc", "")},
		"nothing shared":  {pairOf("a", "1"), pairOf("b", "2"), pairOf("c", "3"), pairOf("dddd", "4"), pairOf("e", "5")},
		"bytes 0 and 255": {pairOf("", "\x00"), pairOf("\x00", "\xff"), pairOf("\x00\x00", ""), pairOf("\x00\x00\xff", "\x00\xff"), pairOf("\x00\xff", "v"), pairOf("\x7f", ""), pairOf("\x80", "\x80"), pairOf("\xff", ""), pairOf("\xff\x00", "\x00"), pairOf("\xff\xff", "\xff\xff"), pairOf("\xff\xff\x00", "")},
	}
	for _, n := range []int{1, 2, 3, 63, 64, 65, 127, 128, 129, 192} {
		var l, few []Pair
		for i := range n {
			k := string([]byte{'k', byte(i / 20), byte(i % 20)})
			l = append(l, pairOf(k, strings.Repeat("v", i%4)))
			few = append(few, pairOf(strings.Repeat("long ", 3)+k, ""))
		}
		all[strconv.Itoa(n)+" pairs"] = l
		all[strconv.Itoa(n)+" pairs, without values"] = few
	}
	var long []Pair
	for _, n := range []int{1, 126, 127, 128, 129, 255, 256, 300} {
		long = append(long, pairOf(strings.Repeat("k", n), strings.Repeat("v", 300-n)))
	}
	all["each begins the next"] = long
	var last []Pair
	for i, n := range []int{0, 126, 127, 128, 129, 16383, 16384} { // all but the last byte is shared
		last = append(last, pairOf(strings.Repeat("k", 200)+string(rune('a'+i)), strings.Repeat("v", n)))
	}
	all["great values"] = last
	return all
}

var everies = []int{1, 2, 3, 4, 5, 16, 31, 32, 33, 62, 63, 64}

// probes: keys to be found: those of the list, those close to them, and far ones.
func probes(l []Pair) []string {
	all := []string{"", "\x00", "a", "k", "m", "\xff", strings.Repeat("\xff", 400)}
	for _, p := range l {
		all = append(all, p.Key, p.Key+"\x00", p.Key+"\xff")
		if n := len(p.Key); n > 0 {
			c := p.Key[n-1]
			all = append(all, p.Key[:n-1], p.Key[:n-1]+string([]byte{c - 1}), p.Key[:n-1]+string([]byte{c + 1}), p.Key[:n/2])
		}
	}
	slices.Sort(all)
	return slices.Compact(all)
}

func modelFind(l []Pair, key string) int {
	n := 0
	for _, p := range l {
		if strings.Compare(p.Key, key) < 0 {
			n++
		}
	}
	return n
}

// holdTotals holds what is told of a block but for Find.
func holdTotals(t *testing.T, x *Block, l []Pair, every int) {
	t.Helper()
	restarts := 0
	for i := 0; i < len(l); i += every {
		restarts++
	}
	if x.Len() != len(l) || x.Every() != every || x.Restarts() != restarts {
		t.Fatalf("%d pairs with %d: Len %d, Every %d, Restarts %d, not %d", len(l), every, x.Len(), x.Every(), x.Restarts(), restarts)
	}
	for i, p := range l {
		if got := x.At(i); got != p {
			t.Fatalf("%d pairs with %d: At(%d): %q, not %q", len(l), every, i, got, p)
		}
	}
	for _, i := range []int{math.MinInt, math.MinInt + 1, -64, -2, -1, len(l), len(l) + 1, len(l) + every, len(l) + 64, 1 << 32, math.MaxInt - 1, math.MaxInt} {
		if got := x.At(i); got != (Pair{}) {
			t.Fatalf("%d pairs with %d: At(%d): %q", len(l), every, i, got)
		}
	}
}

// hold holds all that is told of a block.
func hold(t *testing.T, x *Block, l []Pair, every int) {
	t.Helper()
	holdTotals(t, x, l, every)
	for _, k := range probes(l) {
		if i := x.Find(k); i != modelFind(l, k) {
			t.Fatalf("%d pairs with %d: Find(%q): %d, not %d", len(l), every, k, i, modelFind(l, k))
		}
	}
	holdTotals(t, x, l, every) // asking changes nothing
}

// refused holds that Open tells of b that it is wrong.
func refused(t *testing.T, what string, b []byte) {
	t.Helper()
	if x, e := Open(b); e != api.ErrForm || x != nil {
		t.Errorf("%s: Open(%q): %v, %d", what, b, x, e)
	}
}

// holdOpen holds what Open tells of b against the model, and tells whether b is right.
func holdOpen(t *testing.T, b []byte) bool {
	t.Helper()
	l, every, right := modelOpen(b)
	x, e := Open(b)
	if !right {
		if e != api.ErrForm || x != nil {
			t.Fatalf("Open(%q): %v, %d", b, x, e)
		}
		return false
	}
	if e != api.OK {
		t.Fatalf("Open(%q): %d", b, e)
	}
	holdTotals(t, x, l, every)
	return true
}

func TestExamples(t *testing.T) { // P12.1, P12.2
	b, e := Build([]Pair{pairOf("ab", "1"), pairOf("abc", "2")}, 16)
	want := []byte{0, 2, 1, 'a', 'b', '1', 2, 1, 1, 'c', '2', 0, 0, 0, 0, 0, 0, 0, 1, 16}
	if !bytes.Equal(b, want) || e != api.OK {
		t.Errorf("Build: %v, %d", b, e)
	}
	x, e := Open(want)
	if e != api.OK {
		t.Fatalf("Open: %d", e)
	}
	hold(t, x, []Pair{pairOf("ab", "1"), pairOf("abc", "2")}, 16)
}

func TestBuild(t *testing.T) { // P12.1, P12.2, P12.3
	for name, l := range samples() {
		for _, every := range everies {
			before := slices.Clone(l)
			b, e := Build(l, every)
			want, _ := modelBuild(l, every)
			if e != api.OK || !bytes.Equal(b, want) {
				t.Fatalf("%s with %d: Build: %q, %d; not %q", name, every, b, e, want)
			}
			if !slices.Equal(l, before) {
				t.Fatalf("%s with %d: Build changed what it was handed", name, every)
			}
			x, e := Open(b)
			if e != api.OK {
				t.Fatalf("%s with %d: Open: %d", name, every, e)
			}
			hold(t, x, l, every)
		}
	}
}

// again: the pairs that a block tells.
func again(x *Block) []Pair {
	var l []Pair
	for i := range x.Len() {
		l = append(l, x.At(i))
	}
	return l
}

func TestOpenAndBuildAgain(t *testing.T) { // P12.1, P12.2
	for name, l := range samples() {
		for _, every := range everies {
			x, e := Open(modelBytes(l, every))
			if e != api.OK {
				t.Fatalf("%s with %d: Open: %d", name, every, e)
			}
			if b, e := Build(again(x), x.Every()); e != api.OK || !bytes.Equal(b, modelBytes(l, every)) {
				t.Fatalf("%s with %d: Build of what was read: %q, %d", name, every, b, e)
			}
		}
	}
}

func TestNoPair(t *testing.T) { // P12.1, P12.2, P12.3
	for _, every := range everies {
		for _, l := range [][]Pair{nil, {}} {
			b, e := Build(l, every)
			if e != api.OK || !bytes.Equal(b, []byte{0, 0, 0, 0, byte(every)}) {
				t.Fatalf("Build of no pair with %d: %v, %d", every, b, e)
			}
			x, e := Open(b)
			if e != api.OK {
				t.Fatalf("Open of no pair with %d: %d", every, e)
			}
			hold(t, x, nil, every)
		}
	}
}

func TestEvery(t *testing.T) { // P12.1
	right := []Pair{pairOf("a", "1"), pairOf("b", "2")}
	wrong := []Pair{pairOf("b", "1"), pairOf("a", "2")}
	for every := -300; every <= 600; every++ {
		for _, l := range [][]Pair{nil, right, wrong} {
			want, fault := modelBuild(l, every)
			if b, e := Build(l, every); e != fault || !bytes.Equal(b, want) {
				t.Errorf("Build of %d with %d: %v, %d; not %v, %d", len(l), every, b, e, want, fault)
			}
		}
	}
	for _, every := range []int{math.MinInt, math.MinInt + 1, math.MinInt + 16, -1 << 32, -(1 << 32) + 16, 1<<8 + 16, 1<<32 + 16, math.MaxInt - 1, math.MaxInt} {
		for _, l := range [][]Pair{nil, right, wrong} {
			if b, e := Build(l, every); e != api.ErrRange || b != nil {
				t.Errorf("Build of %d with %d: %v, %d", len(l), every, b, e)
			}
		}
	}
}

func TestOrder(t *testing.T) { // P12.1
	for _, keys := range [][]string{
		{"", ""}, {"a", ""}, {"a", "a"}, {"b", "a"}, {"ab", "a"}, {"aa", "a"}, {"a\x00", "a"}, {"\xff", "\x00"}, {"\x80", "\x7f"}, {"b", "ab"}, {"", "a", ""}, {"", "a", "a"}, {"a", "b", "a"}, {"a", "b", "c", "c"}, {"a", "c", "b", "d"}, {"b", "a", "c"}, {"a", "a", "b"},
		{strings.Repeat("k", 300) + "b", strings.Repeat("k", 300) + "a"},
	} {
		var l []Pair
		for i, k := range keys {
			l = append(l, pairOf(k, strconv.Itoa(i)))
		}
		for _, every := range everies {
			if b, e := Build(l, every); e != api.ErrOrder || b != nil {
				t.Errorf("Build of %q with %d: %v, %d", keys, every, b, e)
			}
		}
	}
}

// TestOrderAtEachPlace: a restart shares nothing, but it must be above the key ahead, too.
func TestOrderAtEachPlace(t *testing.T) { // P12.1
	l := samples()["129 pairs"]
	for i := 1; i < len(l); i++ {
		for _, key := range []string{l[i-1].Key, "", l[i-1].Key[:2]} {
			wrong := slices.Clone(l)
			wrong[i].Key = key
			for _, every := range []int{1, 2, 16, 64} {
				if b, e := Build(wrong, every); e != api.ErrOrder || b != nil {
					t.Fatalf("Build with %d, the %d-th is %q: %d", every, i, key, e)
				}
			}
		}
	}
}

func TestShared(t *testing.T) { // P12.1
	for _, c := range []struct {
		a, b string
		want int
	}{
		{"", "", 0}, {"", "a", 0}, {"a", "a", 1}, {"a", "b", 0}, {"ab", "abc", 2}, {"abd", "abc", 2}, {"abc", "xbc", 0}, {"axc", "abc", 1},
		{"\x00", "\x00\x00", 1}, {"\xff\x00", "\xff\xff", 1}, {"\x00", "", 0}, {"é", "è", 1}, {strings.Repeat("k", 300), strings.Repeat("k", 299), 299}, {strings.Repeat("k", 300) + "a", strings.Repeat("k", 300) + "b", 300},
	} {
		if n := Shared(c.a, c.b); n != c.want {
			t.Errorf("Shared(%q, %q): %d, not %d", c.a, c.b, n, c.want)
		}
		if n := Shared(c.b, c.a); n != c.want {
			t.Errorf("Shared(%q, %q): %d, not %d", c.b, c.a, n, c.want)
		}
	}
	texts := probes(samples()["bytes 0 and 255"])
	for _, a := range texts {
		for _, b := range texts {
			if n := Shared(a, b); n != modelShared(a, b) {
				t.Fatalf("Shared(%q, %q): %d, not %d", a, b, n, modelShared(a, b))
			}
		}
	}
}

func TestOpenOfPieces(t *testing.T) { // P12.2
	refused(t, "nothing", nil)
	refused(t, "nothing", []byte{})
	for name, l := range samples() {
		if len(l) > 70 || name == "great values" {
			continue
		}
		for _, every := range []int{1, 2, 3, 64} {
			b := modelBytes(l, every)
			for n := range len(b) {
				holdOpen(t, b[:n])
				holdOpen(t, b[n:])
			}
			for _, c := range []byte{0, 1, byte(every), 64, 255} {
				holdOpen(t, append(slices.Clone(b), c))
				holdOpen(t, append([]byte{c}, b...))
			}
		}
	}
}

// TestCutOff: a block's bytes without the last ones are no block, but by what the bytes ahead of them are.
func TestCutOff(t *testing.T) { // P12.2
	b := modelBytes(samples()["empty key first"], 2)
	for n := range len(b) {
		refused(t, "cut off at "+strconv.Itoa(n), b[:n])
	}
	for c := range 256 {
		refused(t, "a byte more", append(slices.Clone(b), byte(c)))
	}
}

func TestOpenOfTurnedBytes(t *testing.T) { // P12.2
	right := 0
	for name, l := range samples() {
		if len(l) > 20 || name == "great values" || name == "each begins the next" {
			continue
		}
		for _, every := range []int{1, 2, 3, 16, 64} {
			b := modelBytes(l, every)
			for i := range b {
				for turn := 1; turn < 256; turn++ {
					c := slices.Clone(b)
					c[i] ^= byte(turn)
					if holdOpen(t, c) {
						right++
					}
				}
			}
		}
	}
	if right == 0 {
		t.Errorf("no turned byte made another block")
	}
}

func TestOpenOfSwappedBytes(t *testing.T) { // P12.2
	b := modelBytes(samples()["empty key first"], 2)
	for i := range b {
		for j := range i {
			c := slices.Clone(b)
			c[i], c[j] = c[j], c[i]
			holdOpen(t, c)
			holdOpen(t, slices.Delete(slices.Clone(b), j, i))
		}
	}
}

// ended: pairs' bytes with an end of those numbers.
func ended(pairs []byte, every byte, places ...int) []byte {
	b := slices.Clone(pairs)
	for _, p := range places {
		b = append(b, modelWord(p)...)
	}
	b = append(b, modelWord(len(places))...)
	return append(b, every)
}

func TestOpenOfWrongEnds(t *testing.T) { // P12.2
	pairs := slices.Concat(rawPair(0, "a", "1"), rawPair(1, "b", "2"), rawPair(0, "ac", "3"))
	if x, e := Open(ended(pairs, 2, 0, 10)); e != api.OK || x.Len() != 3 {
		t.Fatalf("Open: %d", e)
	}
	for _, c := range []struct {
		what   string
		every  byte
		places []int
	}{
		{"a place lower", 2, []int{0, 9}}, {"a place higher", 2, []int{0, 11}}, {"another place", 2, []int{5, 10}}, {"places turned", 2, []int{10, 0}}, {"a place of a pair that is none", 2, []int{0, 5}},
		{"a restart fewer", 2, []int{0}}, {"no restart", 2, nil}, {"a restart more", 2, []int{0, 10, 16}}, {"a restart twice", 2, []int{0, 0, 10}}, {"a place behind all", 2, []int{0, 16}}, {"a great place", 2, []int{0, 1<<32 - 1}}, {"a great place", 2, []int{0, 10 + 1<<31}},
		{"Every 1, not 2", 1, []int{0, 10}}, {"Every 3, not 2", 3, []int{0, 10}}, {"Every 64, not 2", 64, []int{0, 10}}, {"Every 0", 0, []int{0, 10}}, {"Every 65", 65, []int{0, 10}}, {"Every 66", 66, []int{0, 10}}, {"Every 130", 130, []int{0, 10}}, {"Every 255", 255, []int{0, 10}},
		{"Every 1, and places of all", 1, []int{0, 5, 10}}, {"Every 3, and one place", 3, []int{0}},
	} {
		refused(t, c.what, ended(pairs, c.every, c.places...))
		holdOpen(t, ended(pairs, c.every, c.places...))
	}
	for _, n := range []int{0, 1, 3, 4, 5, 6, 127, 1 << 16, 1 << 24, 1<<30 + 2, 1<<31 - 1, 1 << 31, 1<<31 + 2, 1<<32 - 1, 1<<32 - 2} {
		c := slices.Concat(pairs, modelWord(0), modelWord(10), modelWord(n), []byte{2})
		refused(t, "how many restarts: "+strconv.Itoa(n), c)
	}
	for every := range 256 {
		c := slices.Concat(modelWord(0), []byte{byte(every)})
		if x, e := Open(c); (e == api.OK) != (every >= 1 && every <= 64) || (x == nil) != (e != api.OK) {
			t.Errorf("Open of no pair with %d: %d", every, e)
		}
		for _, n := range []int{1, 2, 1 << 30, 1 << 31, 1<<32 - 1} {
			refused(t, "restarts of no pair", slices.Concat(modelWord(n), []byte{byte(every)}))
			refused(t, "restarts of no pair, with a place", slices.Concat(modelWord(0), modelWord(n), []byte{byte(every)}))
		}
	}
}

func TestOpenOfWrongPairs(t *testing.T) { // P12.2
	a := rawPair(0, "ab", "1")
	for _, c := range []struct {
		what  string
		pairs [][]byte
	}{
		{"fewer shared than could be", [][]byte{a, rawPair(1, "bc", "2")}},
		{"none shared, where some could be", [][]byte{a, rawPair(0, "abc", "2")}},
		{"none shared, where one could be", [][]byte{a, rawPair(0, "ac", "2")}},
		{"more shared than the key ahead has", [][]byte{a, rawPair(3, "c", "2")}},
		{"many more shared than the key ahead has", [][]byte{a, rawPair(math.MaxInt, "c", "2")}},
		{"as many shared as numbers wrap round with", [][]byte{a, rawPair(math.MaxInt-1, "cc", "2")}},
		{"the first shares some", [][]byte{rawPair(1, "b", "1"), rawPair(1, "c", "2")}},
		{"one key twice", [][]byte{a, rawPair(2, "", "2")}},
		{"a key that falls", [][]byte{a, rawPair(1, "a", "2")}},
		{"a key that begins the one ahead", [][]byte{a, rawPair(1, "", "2")}},
		{"the empty key behind another", [][]byte{a, rawPair(0, "", "2")}},
		{"the empty key twice", [][]byte{rawPair(0, "", "1"), rawPair(0, "", "2")}},
	} {
		refused(t, c.what, ended(slices.Concat(c.pairs...), 16, 0))
		holdOpen(t, ended(slices.Concat(c.pairs...), 16, 0))
	}
	// With Every 1 each is a restart.
	refused(t, "a restart shares some", ended(slices.Concat(a, rawPair(2, "c", "2")), 1, 0, len(a)))
	refused(t, "a restart shares all", ended(slices.Concat(a, rawPair(2, "", "2")), 1, 0, len(a)))
	refused(t, "a restart falls", ended(slices.Concat(a, rawPair(0, "aa", "2")), 1, 0, len(a)))
	refused(t, "a restart's key twice", ended(slices.Concat(a, rawPair(0, "ab", "2")), 1, 0, len(a)))
	if x, e := Open(ended(slices.Concat(a, rawPair(0, "abc", "2")), 1, 0, len(a))); e != api.OK || x.Len() != 2 {
		t.Errorf("Open of restarts that share nothing: %d", e)
	}
	if x, e := Open(ended(slices.Concat(a, rawPair(2, "c", "2")), 16, 0)); e != api.OK || x.Len() != 2 {
		t.Errorf("Open of one that shares all it can: %d", e)
	}
}

func TestOpenOfLongNumbers(t *testing.T) { // P12.2
	short := [][]byte{{0}, {2}, {1}, []byte("ab1"), {2}, {1}, {1}, []byte("c2")}
	right := ended(bytes.Join(short, nil), 16, 0)
	if x, e := Open(right); e != api.OK || x.Len() != 2 {
		t.Fatalf("Open: %d", e)
	}
	for i, b := range short {
		if len(b) != 1 {
			continue
		}
		for more := 1; more <= 10; more++ {
			long := slices.Clone(short)
			long[i] = append([]byte{b[0] + 128}, bytes.Repeat([]byte{128}, more-1)...)
			long[i] = append(long[i], 0)
			refused(t, "a long number", ended(bytes.Join(long, nil), 16, 0))
			long[i] = bytes.Repeat([]byte{255}, more)
			refused(t, "a number without an end", ended(bytes.Join(long, nil), 16, 0))
			long[i] = append(long[i], 127)
			refused(t, "a great number", ended(bytes.Join(long, nil), 16, 0))
		}
	}
	// How many of its own bytes and of its value's a pair has: together they wrap round.
	for _, numbers := range [][]int{{0, math.MaxInt, math.MaxInt}, {0, 1, math.MaxInt}, {0, math.MaxInt, 1}, {0, 0, math.MaxInt}, {0, 4, 0}, {0, 0, 4}, {0, 3, 1}, {0, 1, 3}, {0, 2, 2}} {
		pairs := slices.Concat(modelNumber(numbers[0]), modelNumber(numbers[1]), modelNumber(numbers[2]), []byte("abc"))
		refused(t, "more than there is", ended(pairs, 16, 0))
		refused(t, "more than there is, behind another", ended(slices.Concat(rawPair(0, "a", "1"), pairs), 16, 0))
	}
}

// TestOpenOfSmallOnes: all bytes of few values, up to some length, that may be a block's.
func TestOpenOfSmallOnes(t *testing.T) { // P12.2
	right := 0
	var b []byte
	var grow func(left int)
	grow = func(left int) {
		for _, every := range []byte{0, 1, 2, 64} {
			for restarts := range 3 {
				for place := range 5 {
					places := slices.Repeat([]int{0}, restarts)
					if restarts > 0 {
						places[restarts-1] = place
					}
					if holdOpen(t, ended(b, every, places...)) {
						right++
					}
				}
			}
		}
		if left == 0 {
			return
		}
		for c := range 3 {
			b = append(b, byte(c))
			grow(left - 1)
			b = b[:len(b)-1]
		}
	}
	grow(7)
	if right < 10 {
		t.Errorf("only %d blocks", right)
	}
}

func TestOpenOfMuchFromLittle(t *testing.T) { // P12.2
	// If pairs could share with all that is ahead, these keys would have some 10^11 bytes.
	long := strings.Repeat("k", 1<<20)
	pairs := rawPair(0, long, "")
	for i := range 100000 {
		pairs = append(pairs, rawPair(len(long)+i, "k", "")...)
	}
	refused(t, "many that share much", ended(pairs, 64, 0))
}

func TestGreatBlock(t *testing.T) { // P12.1, P12.2, P12.3
	var l []Pair
	for i := range 20000 {
		k := strconv.Itoa(2000000 + i*7)
		l = append(l, pairOf(k, k[3:]))
	}
	for _, every := range []int{1, 7, 64} {
		b, e := Build(l, every)
		if e != api.OK || !bytes.Equal(b, modelBytes(l, every)) {
			t.Fatalf("Build with %d: %d", every, e)
		}
		x, e := Open(b)
		if e != api.OK {
			t.Fatalf("Open with %d: %d", every, e)
		}
		holdTotals(t, x, l, every)
		for i := range l {
			for d := -1; d <= 1; d++ {
				k := strconv.Itoa(2000000 + i*7 + d)
				want := i
				if d > 0 {
					want = i + 1
				}
				if n := x.Find(k); n != want {
					t.Fatalf("with %d: Find(%q): %d, not %d", every, k, n, want)
				}
			}
		}
	}
}

func TestLongTexts(t *testing.T) { // P12.1, P12.2, P12.3
	var l []Pair
	for i, n := range []int{0, 127, 128, 16383, 16384, 1 << 17} {
		l = append(l, pairOf(strings.Repeat("k", n), strings.Repeat("v", n)))
		l = append(l, pairOf(strings.Repeat("k", n)+"l", strings.Repeat("w", n/(i+1))))
	}
	great := strings.Repeat("g", 1<<21) // its number has four bytes
	l = append(l, pairOf(great, ""), pairOf(great+great+"h", great))
	sort.Slice(l, func(i, j int) bool { return l[i].Key < l[j].Key })
	for _, every := range []int{1, 2, 5, 64} {
		b, e := Build(l, every)
		if e != api.OK || !bytes.Equal(b, modelBytes(l, every)) {
			t.Fatalf("Build with %d: %d", every, e)
		}
		x, e := Open(b)
		if e != api.OK {
			t.Fatalf("Open with %d: %d", every, e)
		}
		hold(t, x, l, every)
	}
}

func TestMemory(t *testing.T) { // P12.4
	l := samples()["65 pairs"]
	for _, every := range everies {
		room := append(make([]Pair, 0, len(l)+3), l...)
		b, _ := Build(room, every)
		for _, p := range room[:cap(room)][len(l):] {
			if p != (Pair{}) {
				t.Fatalf("Build put %q into the room behind what it was handed", p)
			}
		}
		c, _ := Build(room, every)
		spoil(c)
		if !bytes.Equal(b, modelBytes(l, every)) {
			t.Fatalf("two answers of Build share memory")
		}
		handed := append(make([]byte, 0, len(b)+8), b...)
		x, e := Open(handed)
		if e != api.OK {
			t.Fatalf("Open: %d", e)
		}
		if !bytes.Equal(handed, b) || !bytes.Equal(handed[:cap(handed)][len(b):], make([]byte, cap(handed)-len(b))) {
			t.Fatalf("Open changed what it was handed")
		}
		told := again(x)
		spoil(handed)
		hold(t, x, l, every)
		if !slices.Equal(told, l) {
			t.Fatalf("At tells what was handed in")
		}
		y, _ := Open(b)
		spoil(b)
		hold(t, y, l, every)
		hold(t, x, l, every)
	}
}

// spoil turns all of b's bytes, those of its spare room, too.
func spoil(b []byte) {
	b = b[:cap(b)]
	for i := range b {
		b[i] ^= 0x55
	}
}

func TestBlocksAreTheirOwn(t *testing.T) { // P12.2, P12.4
	all := samples()
	opened := map[string]*Block{}
	for name, l := range all {
		opened[name], _ = Open(modelBytes(l, 3))
	}
	for name, l := range all {
		hold(t, opened[name], l, 3)
	}
}

// anyPairs: pairs of short keys of few bytes, most often in order.
func anyPairs(c *chance) []Pair {
	letters := "\x00\x01ab\xff"
	var l []Pair
	for range c.below(40) {
		var k []byte
		for range c.below(6) {
			k = append(k, letters[c.below(len(letters))])
		}
		l = append(l, pairOf(string(k), strings.Repeat("v", c.below(3)*c.below(90))))
	}
	if c.below(8) > 0 {
		slices.SortFunc(l, func(a, b Pair) int { return strings.Compare(a.Key, b.Key) })
		l = slices.CompactFunc(l, func(a, b Pair) bool { return a.Key == b.Key })
	}
	return l
}

func TestAny(t *testing.T) { // P12.1, P12.2, P12.3
	c := &chance{state: 12}
	for range 1200 {
		l, every := anyPairs(c), c.below(68)-1
		want, fault := modelBuild(l, every)
		b, e := Build(l, every)
		if e != fault || !bytes.Equal(b, want) {
			t.Fatalf("Build of %q with %d: %q, %d; not %q, %d", l, every, b, e, want, fault)
		}
		if e != api.OK {
			continue
		}
		x, e := Open(b)
		if e != api.OK {
			t.Fatalf("Open(%q): %d", b, e)
		}
		hold(t, x, l, every)
		for range 10 {
			i := c.below(len(b))
			d := slices.Clone(b)
			d[i] = byte(c.below(256))
			holdOpen(t, d)
			holdOpen(t, slices.Insert(slices.Clone(b), i, byte(c.below(4))))
			holdOpen(t, slices.Delete(slices.Clone(b), i, i+1))
		}
	}
}

func TestOpenOfAny(t *testing.T) { // P12.2
	c := &chance{state: 7}
	for range 20000 {
		b := make([]byte, c.below(40))
		for i := range b {
			b[i] = byte(c.below(1 << c.below(9)))
		}
		holdOpen(t, b)
	}
}
