package sum

import (
	"bytes"
	"hash/crc32"
	"testing"

	"tithebarn/api"
)

// bitByBit takes the sum just as the document words it, with no table.
func bitByBit(b []byte) uint32 {
	c := uint32(0xffffffff)
	for _, x := range b {
		c ^= uint32(x)
		for range 8 {
			out := c & 1
			c >>= 1
			if out != 0 {
				c ^= 0x82f63b78
			}
		}
	}
	return c ^ 0xffffffff
}

// turnOnce turns c by one bit to the lower end.
func turnOnce(c uint32) uint32 {
	low := c % 2
	return c/2 + low*0x80000000
}

func maskByTurns(c uint32) uint32 {
	for range 15 {
		c = turnOnce(c)
	}
	return uint32((uint64(c) + 0xa282ead8) % (1 << 32))
}

// numbers: the ends, each bit alone and each bit missing, what wraps in Mask, and some others.
func numbers() []uint32 {
	ns := []uint32{0, 1, 0xffffffff, 0x80000000, 0x7fffffff, 0xe3069283, 0xc78ab0e5, 0xa282ead8, 0x5d7d1528, 0x5d7d1527}
	for i := range 32 {
		ns = append(ns, 1<<i, ^uint32(1<<i))
	}
	x := uint32(12345)
	for range 1000 {
		x = x*1664525 + 1013904223
		ns = append(ns, x)
	}
	return ns
}

// texts: of every length up to 70, and each byte alone.
func texts() [][]byte {
	var ts [][]byte
	x := uint32(1)
	for n := range 71 {
		t := make([]byte, n)
		for i := range t {
			x = x*1664525 + 1013904223
			t[i] = byte(x >> 24)
		}
		ts = append(ts, t, bytes.Repeat([]byte{0}, n), bytes.Repeat([]byte{255}, n))
	}
	for c := range 256 {
		ts = append(ts, []byte{byte(c)})
	}
	return ts
}

func TestOfExamples(t *testing.T) { // P1.1
	cases := []struct {
		text string
		want uint32
	}{
		{"123456789", 0xe3069283},
		{"", 0},
		{"a", 0xc1d04330},
		{"abc", 0x364b3fb7},
		{string(make([]byte, 32)), 0x8a9136aa},
		{string(bytes.Repeat([]byte{255}, 32)), 0x62a8ab43},
	}
	for _, c := range cases {
		if got := Of([]byte(c.text)); got != c.want {
			t.Errorf("Of(%q): %#x, not %#x", c.text, got, c.want)
		}
	}
	if Of(nil) != 0 || Of([]byte{}) != 0 {
		t.Error("Of nothing is not 0")
	}
}

func TestOfIsTheSum(t *testing.T) { // P1.1
	castagnoli := crc32.MakeTable(crc32.Castagnoli)
	long := make([]byte, api.MaxZone+3)
	for i := range long {
		long[i] = byte(i * i >> 3)
	}
	for _, b := range append(texts(), long) {
		got := Of(b)
		if got != bitByBit(b) || got != crc32.Checksum(b, castagnoli) {
			t.Errorf("Of(%x): %#x, not %#x", b, got, bitByBit(b))
		}
	}
}

func TestOfTellsSpoiltBytes(t *testing.T) { // P1.1
	b := []byte("a key and its value")
	want := Of(b)
	for i := range len(b) * 8 {
		b[i/8] ^= 1 << (i % 8)
		if Of(b) == want {
			t.Errorf("bit %d turned: the same sum", i)
		}
		b[i/8] ^= 1 << (i % 8)
	}
}

func TestMoreAtEveryCut(t *testing.T) { // P1.1
	for _, b := range texts() {
		want := Of(b)
		for i := range len(b) + 1 {
			if got := More(Of(b[:i]), b[i:]); got != want {
				t.Errorf("More of %x, cut at %d: %#x, not %#x", b, i, got, want)
			}
		}
	}
}

func TestMoreByteByByte(t *testing.T) { // P1.1
	b := []byte("123456789")
	c := Of(nil)
	for i := range b {
		c = More(c, b[i:i+1])
	}
	if c != 0xe3069283 {
		t.Errorf("More byte by byte: %#x", c)
	}
}

func TestMoreOfNothing(t *testing.T) { // P1.1
	for _, c := range numbers() {
		if More(c, nil) != c || More(c, []byte{}) != c {
			t.Errorf("More(%#x) with nothing: %#x, %#x", c, More(c, nil), More(c, []byte{}))
		}
	}
}

func TestMaskExamples(t *testing.T) { // P1.2
	cases := [][2]uint32{
		{0xe3069283, 0xc78ab0e5},
		{0, 0xa282ead8},
		{1, 0xa284ead8},
		{0x8000, 0xa282ead9},
		{0xffffffff, 0xa282ead7},
	}
	for _, c := range cases {
		if got := Mask(c[0]); got != c[1] {
			t.Errorf("Mask(%#x): %#x, not %#x", c[0], got, c[1])
		}
		if got := Unmask(c[1]); got != c[0] {
			t.Errorf("Unmask(%#x): %#x, not %#x", c[1], got, c[0])
		}
	}
}

func TestMaskAndUnmask(t *testing.T) { // P1.2
	for _, c := range numbers() {
		if got := Mask(c); got != maskByTurns(c) {
			t.Errorf("Mask(%#x): %#x, not %#x", c, got, maskByTurns(c))
		}
		if got := Unmask(Mask(c)); got != c {
			t.Errorf("Unmask(Mask(%#x)): %#x", c, got)
		}
		if got := Mask(Unmask(c)); got != c {
			t.Errorf("Mask(Unmask(%#x)): %#x", c, got)
		}
	}
}

func TestWord(t *testing.T) { // P1.3
	cases := []struct {
		number uint32
		want   string
	}{
		{0, "\x00\x00\x00\x00"},
		{1, "\x00\x00\x00\x01"},
		{0x01020304, "\x01\x02\x03\x04"},
		{0xe3069283, "\xe3\x06\x92\x83"},
		{0xffffffff, "\xff\xff\xff\xff"},
	}
	for _, c := range cases {
		if got := Word(c.number); string(got) != c.want {
			t.Errorf("Word(%#x): %x", c.number, got)
		}
		if got, e := Parse([]byte(c.want)); got != c.number || e != api.OK {
			t.Errorf("Parse(%x): %#x, %d", c.want, got, e)
		}
	}
	for _, c := range numbers() {
		w := Word(c)
		if got, e := Parse(w); len(w) != 4 || got != c || e != api.OK {
			t.Errorf("Parse(Word(%#x)): %#x, %d", c, got, e)
		}
	}
}

func TestParseWrongLengths(t *testing.T) { // P1.3
	if c, e := Parse(nil); c != 0 || e != api.ErrShort {
		t.Errorf("Parse of nothing: %#x, %d", c, e)
	}
	for n := range 300 {
		want := api.OK
		if n < 4 {
			want = api.ErrShort
		} else if n > 4 {
			want = api.ErrForm
		}
		c, e := Parse(bytes.Repeat([]byte{7}, n))
		if e != want || (c == 0x07070707) != (n == 4) || (c == 0) != (n != 4) {
			t.Errorf("Parse of %d bytes: %#x, %d", n, c, e)
		}
	}
}

func TestParseMindsLengthNotRoom(t *testing.T) { // P1.3
	b := []byte{1, 2, 3, 4, 5}
	if c, e := Parse(b[:3]); c != 0 || e != api.ErrShort {
		t.Errorf("Parse of three bytes with room: %#x, %d", c, e)
	}
	if c, e := Parse(b[:4]); c != 0x01020304 || e != api.OK {
		t.Errorf("Parse of four bytes with room: %#x, %d", c, e)
	}
}

func TestArgumentsStay(t *testing.T) { // the rule of memory: P1.1, P1.3
	room := []byte("ahead,1234,behind")
	b := room[6:10]
	Of(b)
	More(5, b)
	Parse(b)
	Parse(b[:2])
	Parse(b[:5])
	if string(room) != "ahead,1234,behind" {
		t.Errorf("an argument was changed: %q", room)
	}
}

func TestWordsAreNewMemory(t *testing.T) { // the rule of memory: P1.3
	first := Word(0x01020304)
	second := Word(0x01020304)
	clear(first[:cap(first)])
	if string(second) != "\x01\x02\x03\x04" || string(Word(0x01020304)) != "\x01\x02\x03\x04" {
		t.Error("two words share their memory")
	}
}

func TestNothingIsKept(t *testing.T) { // the same answers, whatever was asked between
	for _, b := range texts() {
		c, m := Of(b), Mask(bitByBit(b))
		Of([]byte("between"))
		Unmask(m)
		Parse(b)
		if Of(b) != c || Mask(c) != m {
			t.Errorf("another answer for %x", b)
		}
	}
}
