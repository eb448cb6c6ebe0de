package bloom

import (
	"bytes"
	"encoding/hex"
	"hash/crc32"
	"math"
	"math/big"
	"slices"
	"strconv"
	"testing"

	"tithebarn/api"
)

// model: a filter just as the document words it, with a bit in each place of a list.
type model struct {
	bits   []bool
	probes int
}

func newModel(keys, bitsEach int) *model {
	size := keys * bitsEach
	if size < 64 {
		size = 64
	}
	for size%8 != 0 {
		size++
	}
	probes := (bitsEach*7 - bitsEach*7%10) / 10
	if probes == 0 {
		probes = 1
	}
	return &model{bits: make([]bool, size), probes: probes}
}

// modelPlaces: a, a and d, a and 2 d .., as numbers of any size modulo 2^64, and then modulo the number of bits.
func modelPlaces(key []byte, size, probes int) []int {
	a := crc32.Checksum(key, crc32.MakeTable(crc32.Castagnoli))
	d := (a/(1<<15) + a%(1<<15)*(1<<17)) + 0xa282ead8
	if d%2 == 0 {
		d++
	}
	var ps []int
	for i := range probes {
		p := new(big.Int).Mul(big.NewInt(int64(i)), big.NewInt(int64(d)))
		p.Add(p, big.NewInt(int64(a)))
		p.Mod(p, new(big.Int).Lsh(big.NewInt(1), 64))
		ps = append(ps, int(p.Mod(p, big.NewInt(int64(size))).Int64()))
	}
	return ps
}

func (m *model) add(key []byte) {
	for _, p := range modelPlaces(key, len(m.bits), m.probes) {
		m.bits[p] = true
	}
}

func (m *model) has(key []byte) bool {
	for _, p := range modelPlaces(key, len(m.bits), m.probes) {
		if !m.bits[p] {
			return false
		}
	}
	return true
}

func (m *model) set() int {
	n := 0
	for _, b := range m.bits {
		if b {
			n++
		}
	}
	return n
}

func (m *model) bytes() []byte {
	b := []byte{byte(m.probes)}
	for i := 0; i < len(m.bits); i += 8 {
		c, worth := 0, 1
		for _, set := range m.bits[i : i+8] {
			if set {
				c += worth
			}
			worth *= 2
		}
		b = append(b, byte(c))
	}
	return b
}

// sameAs holds all that f tells of itself against the model.
func sameAs(t *testing.T, f *Filter, m *model) {
	t.Helper()
	if f.Bits() != len(m.bits) || f.Probes() != m.probes || f.Set() != m.set() {
		t.Fatalf("%d bits, %d probes, %d set; not %d, %d, %d", f.Bits(), f.Probes(), f.Set(), len(m.bits), m.probes, m.set())
	}
	if !bytes.Equal(f.Bytes(), m.bytes()) {
		t.Fatalf("bytes of a filter of %d bits: %x, not %x", f.Bits(), f.Bytes(), m.bytes())
	}
}

func fresh(t *testing.T, keys, bitsEach int) *Filter {
	t.Helper()
	f, e := New(keys, bitsEach)
	if f == nil || e != api.OK {
		t.Fatalf("New(%d, %d): %v, %d", keys, bitsEach, f, e)
	}
	return f
}

func parsed(t *testing.T, b []byte) *Filter {
	t.Helper()
	f, e := Parse(b)
	if f == nil || e != api.OK {
		t.Fatalf("Parse of %d bytes: %v, %d", len(b), f, e)
	}
	return f
}

// keysToAdd: the key of no bytes, each byte alone, beginnings of one another, and a long one.
func keysToAdd() [][]byte {
	ks := [][]byte{nil, {}, {0}, {0, 0}, []byte("a"), []byte("ab"), []byte("abc"), bytes.Repeat([]byte("k"), api.MaxKey), bytes.Repeat([]byte{255}, 1000)}
	for c := range 256 {
		ks = append(ks, []byte{byte(c)})
	}
	return ks
}

func numbered(from, to int) [][]byte {
	var ks [][]byte
	for i := from; i < to; i++ {
		ks = append(ks, []byte("key "+strconv.Itoa(i)))
	}
	return ks
}

func TestNewExamples(t *testing.T) { // P4.1
	cases := []struct{ keys, bitsEach, bits, probes int }{
		{10, 10, 104, 7},
		{0, 1, 64, 1},
		{0, 32, 64, 22},
		{1, 1, 64, 1},
		{1, 2, 64, 1},
		{1, 3, 64, 2},
		{1, 32, 64, 22},
		{2, 31, 64, 21},
		{2, 32, 64, 22},
		{63, 1, 64, 1},
		{64, 1, 64, 1},
		{65, 1, 72, 1},
		{71, 1, 72, 1},
		{72, 1, 72, 1},
		{73, 1, 80, 1},
		{7, 9, 64, 6},
		{13, 5, 72, 3},
		{9, 9, 88, 6},
		{3, 31, 96, 21},
		{3, 32, 96, 22},
		{1000, 15, 15000, 10},
		{1001, 15, 15016, 10},
		{1<<16 - 1, 1, 1 << 16, 1},
		{1 << 16, 1, 1 << 16, 1},
		{1 << 16, 2, 1 << 17, 1},
		{1<<16 - 1, 31, 2031592, 21},
		{1<<16 - 1, 32, 1<<21 - 32, 22},
		{1 << 16, 31, 2031616, 21},
		{1 << 16, 32, 1 << 21, 22},
	}
	for _, c := range cases {
		f := fresh(t, c.keys, c.bitsEach)
		if f.Bits() != c.bits || f.Probes() != c.probes || f.Set() != 0 {
			t.Errorf("New(%d, %d): %d bits, %d probes, %d set, not %d, %d, 0", c.keys, c.bitsEach, f.Bits(), f.Probes(), f.Set(), c.bits, c.probes)
		}
	}
}

func TestNewProbes(t *testing.T) { // P4.1
	want := []int{1, 1, 2, 2, 3, 4, 4, 5, 6, 7, 7, 8, 9, 9, 10, 11, 11, 12, 13, 14, 14, 15, 16, 16, 17, 18, 18, 19, 20, 21, 21, 22}
	for i, n := range want {
		for _, keys := range []int{0, 1, 100} {
			if f := fresh(t, keys, i+1); f.Probes() != n {
				t.Errorf("New(%d, %d): %d probes, not %d", keys, i+1, f.Probes(), n)
			}
		}
	}
}

func TestNewIsTheModel(t *testing.T) { // P4.1
	for keys := range 140 {
		for each := 1; each <= 32; each++ {
			sameAs(t, fresh(t, keys, each), newModel(keys, each))
		}
	}
}

func TestNewHasNothing(t *testing.T) { // P4.1, P4.2
	for _, c := range [][2]int{{0, 1}, {10, 10}, {1 << 16, 32}} {
		f := fresh(t, c[0], c[1])
		for _, k := range keysToAdd() {
			if f.Has(k) {
				t.Errorf("an empty filter of %d bits has %x", f.Bits(), k)
			}
		}
		b := f.Bytes()
		if len(b) != 1+f.Bits()/8 || slices.ContainsFunc(b[1:], func(x byte) bool { return x != 0 }) {
			t.Errorf("an empty filter of %d bits has other bytes", f.Bits())
		}
	}
}

func TestNewOfWrongNumbers(t *testing.T) { // P4.1
	rightKeys := []int{0, 1, 10, 1 << 16}
	wrongKeys := []int{-1, -2, -10, math.MinInt32, math.MinInt + 1, math.MinInt, 1<<16 + 1, 1 << 17, 1 << 31, 1 << 32, 1<<32 + 1, 1 << 40, 1 << 59, 1 << 62, math.MaxInt}
	rightEach := []int{1, 2, 10, 31, 32}
	wrongEach := []int{0, -1, -2, -32, math.MinInt32, math.MinInt, 33, 34, 64, 1 << 32, 1<<32 + 1, 1 << 62, math.MaxInt}
	refused := func(keys, each int) {
		if f, e := New(keys, each); f != nil || e != api.ErrRange {
			t.Errorf("New(%d, %d): %v, %d", keys, each, f, e)
		}
	}
	for _, k := range wrongKeys {
		for _, each := range append(rightEach, wrongEach...) {
			refused(k, each)
		}
	}
	for _, each := range wrongEach {
		for _, k := range rightKeys {
			refused(k, each)
		}
	}
}

func TestPlacesExamples(t *testing.T) { // P4.2
	cases := []struct {
		key    string
		bits   int
		probes int
		want   []int
	}{
		{"", 64, 2, []int{0, 25}},
		{"", 64, 1, []int{0}},
		{"a", 64, 1, []int{48}},
		{"a", 104, 7, []int{64, 1, 42, 83, 20, 61, 102}},
		{"abc", 1, 3, []int{0, 0, 0}},
		{"abc", 1<<24 - 1, 7, []int{4931565, 3970942, 3010319, 2049696, 1089073, 128450, 15945042}},
		{"123456789", 1 << 24, 4, []int{430723, 9519976, 1832013, 10921266}},
		{"a", 97, 30, []int{13, 64, 18, 69, 23, 74, 28, 79, 33, 84, 38, 89, 43, 94, 48, 2, 53, 7, 58, 12, 63, 17, 68, 22, 73, 27, 78, 32, 83, 37}},
	}
	for _, c := range cases {
		if got := Places([]byte(c.key), c.bits, c.probes); !slices.Equal(got, c.want) {
			t.Errorf("Places(%q, %d, %d): %v, not %v", c.key, c.bits, c.probes, got, c.want)
		}
	}
}

func TestPlacesAreTheModels(t *testing.T) { // P4.2
	for _, k := range keysToAdd() {
		for _, size := range []int{1, 2, 3, 7, 8, 63, 64, 65, 104, 1000003, 1<<24 - 1, 1 << 24} {
			for _, probes := range []int{1, 2, 7, 22, 29, 30} {
				got, want := Places(k, size, probes), modelPlaces(k, size, probes)
				if !slices.Equal(got, want) {
					t.Fatalf("Places(%x, %d, %d): %v, not %v", k, size, probes, got, want)
				}
			}
		}
	}
}

func TestPlacesOfWrongNumbers(t *testing.T) { // P4.2
	right := [][2]int{{1, 1}, {1, 30}, {64, 7}, {1 << 24, 1}, {1 << 24, 30}}
	for _, c := range right {
		if l := Places([]byte("a"), c[0], c[1]); len(l) != c[1] {
			t.Errorf("Places(a, %d, %d): %v", c[0], c[1], l)
		}
	}
	wrongBits := []int{0, -1, -64, math.MinInt32, math.MinInt, 1<<24 + 1, 1 << 25, 1 << 32, 1<<32 + 64, 1 << 62, math.MaxInt}
	wrongProbes := []int{0, -1, -7, math.MinInt32, math.MinInt, 31, 32, 256, 257, 1 << 32, 1<<32 + 7, math.MaxInt}
	for _, k := range [][]byte{nil, []byte("a")} {
		for _, size := range wrongBits {
			for _, probes := range append([]int{1, 7, 30}, wrongProbes...) {
				if l := Places(k, size, probes); len(l) != 0 {
					t.Errorf("Places(%x, %d, %d): %v", k, size, probes, l)
				}
			}
		}
		for _, probes := range wrongProbes {
			for _, size := range []int{1, 8, 64, 1 << 24} {
				if l := Places(k, size, probes); len(l) != 0 {
					t.Errorf("Places(%x, %d, %d): %v", k, size, probes, l)
				}
			}
		}
	}
}

func TestAddIsTheModels(t *testing.T) { // P4.2, P4.3, P4.4
	for _, c := range [][2]int{{0, 1}, {10, 10}, {9, 9}, {30, 3}, {100, 32}, {300, 10}} {
		f, m := fresh(t, c[0], c[1]), newModel(c[0], c[1])
		for _, k := range keysToAdd() {
			f.Add(k)
			m.add(k)
			sameAs(t, f, m)
			if !f.Has(k) {
				t.Fatalf("%x was added, and is not there", k)
			}
		}
	}
}

func TestHasIsTheModels(t *testing.T) { // P4.2
	for _, c := range [][2]int{{20, 1}, {20, 10}, {20, 32}} {
		f, m := fresh(t, c[0], c[1]), newModel(c[0], c[1])
		there := 0
		for _, k := range numbered(0, 20) {
			f.Add(k)
			m.add(k)
		}
		for _, k := range numbered(0, 2000) {
			if f.Has(k) != m.has(k) {
				t.Fatalf("Has(%q): %v", k, f.Has(k))
			}
			if m.has(k) {
				there++
			}
		}
		if there < 20 || there == 2000 {
			t.Fatalf("%d keys of 2000 are there: all or too few", there)
		}
	}
}

func TestHasNeedsAllBits(t *testing.T) { // P4.2
	k := []byte("a")
	b := fresh(t, 10, 10).Bytes()
	places := modelPlaces(k, 104, 7)
	for _, p := range places {
		b[1+p/8] |= 1 << (p % 8)
	}
	if !parsed(t, b).Has(k) {
		t.Fatal("all bits are set, and the key is not there")
	}
	for _, p := range places {
		one := bytes.Clone(b)
		one[1+p/8] ^= 1 << (p % 8)
		if parsed(t, one).Has(k) {
			t.Errorf("bit %d is not set, and the key is there", p)
		}
	}
}

func TestAddTwiceIsAddOnce(t *testing.T) { // P4.2
	for _, k := range keysToAdd() {
		f := fresh(t, 10, 10)
		f.Add(k)
		once, set := f.Bytes(), f.Set()
		f.Add(k)
		if !bytes.Equal(f.Bytes(), once) || f.Set() != set || !f.Has(k) {
			t.Errorf("%x, added twice: %x, not %x", k, f.Bytes(), once)
		}
	}
}

func TestKeyOfNoBytes(t *testing.T) { // P4.2
	f := fresh(t, 0, 1)
	if f.Has(nil) || f.Has([]byte{}) {
		t.Error("the key of no bytes is there before it was added")
	}
	f.Add(nil)
	if !f.Has(nil) || !f.Has([]byte{}) || f.Set() != 1 || f.Has([]byte("a")) {
		t.Errorf("the key of no bytes was added: %x", f.Bytes())
	}
	g := fresh(t, 0, 1)
	g.Add([]byte{})
	if !bytes.Equal(f.Bytes(), g.Bytes()) {
		t.Errorf("nil and empty are two keys: %x, %x", f.Bytes(), g.Bytes())
	}
}

func TestBytesExamples(t *testing.T) { // P4.3
	cases := []struct {
		keys, bitsEach int
		added          []string
		want           string
	}{
		{0, 1, nil, "010000000000000000"},
		{0, 1, []string{""}, "010100000000000000"},
		{10, 10, []string{"a"}, "0702001000000400200100080040"},
		{10, 10, []string{"a", "b", "", "abc"}, "0723fe18004006413001000c00e2"},
		{9, 9, []string{"a", "b"}, "060022894220100010040100"},
	}
	for _, c := range cases {
		f := fresh(t, c.keys, c.bitsEach)
		for _, k := range c.added {
			f.Add([]byte(k))
		}
		if got := hex.EncodeToString(f.Bytes()); got != c.want {
			t.Errorf("bytes of New(%d, %d) with %q: %s, not %s", c.keys, c.bitsEach, c.added, got, c.want)
		}
	}
}

func TestBytesThereAndBack(t *testing.T) { // P4.3, P4.4
	for _, c := range [][2]int{{0, 1}, {1, 32}, {10, 10}, {9, 9}, {1000, 10}, {1 << 16, 31}, {1<<16 - 1, 1}, {1<<16 - 1, 31}} {
		f := fresh(t, c[0], c[1])
		for _, k := range keysToAdd() {
			f.Add(k)
		}
		b := f.Bytes()
		g := parsed(t, b)
		if g.Bits() != f.Bits() || g.Probes() != f.Probes() || g.Set() != f.Set() || !bytes.Equal(g.Bytes(), b) {
			t.Fatalf("New(%d, %d), there and back: %d bits, %d probes, %d set", c[0], c[1], g.Bits(), g.Probes(), g.Set())
		}
		for _, k := range keysToAdd() {
			if !g.Has(k) {
				t.Fatalf("%x was added, and is not there when it is read back", k)
			}
		}
		for _, k := range numbered(0, 500) {
			if g.Has(k) != f.Has(k) {
				t.Fatalf("Has(%q), read back: %v", k, g.Has(k))
			}
		}
	}
}

func TestParseAnyBytes(t *testing.T) { // P4.3
	x := uint32(7)
	for n := 9; n < 200; n++ {
		for _, probes := range []byte{1, 2, 22, 29, 30} {
			b := make([]byte, n)
			m := &model{probes: int(probes)}
			for i := range b {
				x = x*1664525 + 1013904223
				b[i] = byte(x>>24) | byte(x>>16)
			}
			b[0] = probes
			for _, c := range b[1:] {
				for i := range 8 {
					m.bits = append(m.bits, c>>i&1 == 1)
				}
			}
			f := parsed(t, b)
			sameAs(t, f, m)
			if k := []byte{probes}; f.Has(k) != m.has(k) {
				t.Fatalf("Has(%x) of %x: %v", k, b, f.Has(k))
			}
		}
	}
}

func TestParseMindsLengthAndProbes(t *testing.T) { // P4.3
	for _, n := range []int{0, 1, 2, 7, 8, 9, 10, 1000, 1<<21 - 1, 1 << 21, 1<<21 + 1, 1 << 22} {
		for _, probes := range []byte{0, 1, 2, 30, 31, 32, 127, 128, 129, 158, 255} {
			b := make([]byte, n)
			if n > 0 {
				b[0] = probes
			}
			f, e := Parse(b)
			right := n >= 9 && n <= 1<<21 && probes >= 1 && probes <= 30
			if !right && (f != nil || e != api.ErrForm) {
				t.Errorf("Parse of %d bytes with %d probes: %v, %d", n, probes, f, e)
			}
			if right && (e != api.OK || f.Bits() != 8*(n-1) || f.Probes() != int(probes) || f.Set() != 0 || f.Has([]byte("a"))) {
				t.Errorf("Parse of %d bytes with %d probes: %d", n, probes, e)
			}
		}
	}
	if f, e := Parse(nil); f != nil || e != api.ErrForm {
		t.Errorf("Parse of nothing: %v, %d", f, e)
	}
}

func TestParseMindsLengthNotRoom(t *testing.T) { // P4.3
	b := bytes.Repeat([]byte{1}, 20)
	if f, e := Parse(b[:8]); f != nil || e != api.ErrForm {
		t.Errorf("Parse of 8 bytes with room: %v, %d", f, e)
	}
	if f, e := Parse(b[:9]); e != api.OK || f.Bits() != 64 || f.Set() != 8 {
		t.Errorf("Parse of 9 bytes with room: %d", e)
	}
}

func TestParsedFilterTakesMore(t *testing.T) { // P4.2, P4.3, P4.4
	for _, n := range []int{9, 14, 1 << 21} {
		b := make([]byte, n)
		b[0] = 30
		f := parsed(t, b)
		m := &model{bits: make([]bool, 8*(n-1)), probes: 30}
		for _, k := range []string{"", "a", "123456789"} {
			f.Add([]byte(k))
			m.add([]byte(k))
		}
		sameAs(t, f, m)
		if !f.Has(nil) || !f.Has([]byte("a")) || !f.Has([]byte("123456789")) {
			t.Errorf("a filter of %d bytes lost a key", n)
		}
	}
}

func TestWhatWasAddedIsAlwaysThere(t *testing.T) { // P4.4
	for _, c := range [][2]int{{0, 1}, {5, 1}, {1000, 1}, {1000, 10}, {1000, 32}, {1 << 16, 10}} {
		f := fresh(t, c[0], c[1])
		keys := numbered(0, 2000)
		for i, k := range keys {
			f.Add(k)
			if !f.Has(k) || !f.Has(keys[i/2]) || !f.Has(keys[0]) {
				t.Fatalf("New(%d, %d): a key is lost behind %d", c[0], c[1], i)
			}
		}
		for _, k := range keys {
			if !f.Has(k) {
				t.Fatalf("New(%d, %d): %q is lost", c[0], c[1], k)
			}
		}
	}
}

func TestFullFilterHasAll(t *testing.T) { // P4.2, P4.4
	b := bytes.Repeat([]byte{255}, 14)
	b[0] = 30
	f := parsed(t, b)
	if f.Set() != 104 {
		t.Errorf("Set: %d", f.Set())
	}
	for _, k := range keysToAdd() {
		f.Add(k)
		if !f.Has(k) || f.Set() != 104 || !bytes.Equal(f.Bytes(), b) {
			t.Errorf("a full filter and %x: %x", k, f.Bytes())
		}
	}
}

func TestFewAreTakenForOthers(t *testing.T) { // P4.1, P4.2: what the bits are for
	f := fresh(t, 2000, 10)
	for _, k := range numbered(0, 2000) {
		f.Add(k)
	}
	wrong := 0
	for _, k := range numbered(2000, 12000) {
		if f.Has(k) {
			wrong++
		}
	}
	if wrong > 200 {
		t.Errorf("%d keys of 10000 were taken for others", wrong)
	}
}

func TestArgumentsStay(t *testing.T) { // P4.5
	f := fresh(t, 10, 10)
	room := []byte("ahead,key,behind")
	k := room[6:9]
	f.Add(k)
	f.Has(k)
	Places(k, 64, 30)
	if string(room) != "ahead,key,behind" {
		t.Errorf("a key was changed: %q", room)
	}
	room = append(f.Bytes(), "spare"...)
	was := bytes.Clone(room)
	b := room[:14]
	g := parsed(t, b)
	g.Add([]byte("another"))
	g.Bytes()
	if !bytes.Equal(room, was) {
		t.Errorf("bytes were changed: %x, not %x", room, was)
	}
}

func TestArgumentsAreNotKept(t *testing.T) { // P4.5
	f, m := fresh(t, 10, 10), newModel(10, 10)
	k := []byte("key")
	f.Add(k)
	m.add(k)
	clear(k)
	sameAs(t, f, m)
	if !f.Has([]byte("key")) {
		t.Error("a key is lost when its bytes are changed")
	}
	room := append(f.Bytes(), "spare"...)
	g := parsed(t, room[:14])
	for i := range room {
		room[i] = 255
	}
	sameAs(t, g, m)
	g.Add([]byte("another"))
	sameAs(t, f, m)
}

func TestAnswersAreNewMemory(t *testing.T) { // P4.5
	f, m := fresh(t, 10, 10), newModel(10, 10)
	f.Add([]byte("a"))
	m.add([]byte("a"))
	first, second := f.Bytes(), f.Bytes()
	first = first[:cap(first)]
	for i := range first {
		first[i] ^= 85
	}
	if !bytes.Equal(second, m.bytes()) {
		t.Errorf("two answers share their memory: %x", second)
	}
	sameAs(t, f, m)
	second = f.Bytes()
	f.Add([]byte("b"))
	if !bytes.Equal(second, m.bytes()) {
		t.Errorf("an answer changes with the filter: %x", second)
	}
	places, others := Places([]byte("a"), 104, 7), Places([]byte("a"), 104, 7)
	clear(places[:cap(places)])
	if !slices.Equal(others, modelPlaces([]byte("a"), 104, 7)) {
		t.Errorf("two lists of places share their memory: %v", others)
	}
}

func TestFiltersAreApart(t *testing.T) { // P4.5
	f, g := fresh(t, 10, 10), fresh(t, 10, 10)
	h := parsed(t, f.Bytes())
	f.Add([]byte("a"))
	if g.Set() != 0 || h.Set() != 0 || g.Has([]byte("a")) || h.Has([]byte("a")) {
		t.Error("what was added to one filter is in another")
	}
}

func TestAskingChangesNothing(t *testing.T) { // P1, P4.2
	f, m := fresh(t, 10, 10), newModel(10, 10)
	f.Add([]byte("a"))
	m.add([]byte("a"))
	for range 3 {
		f.Has([]byte("a"))
		f.Has([]byte("b"))
		New(-1, 0)
		Parse(nil)
		Places([]byte("a"), 104, 7)
		sameAs(t, f, m)
	}
}
