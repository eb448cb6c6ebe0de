package wire

import (
	"bytes"
	"encoding/binary"
	"math"
	"testing"

	"tithebarn/api"
)

// numbers: both sides of each power of two, the ends, and some others; all from 0 on.
func numbers() []int {
	ns := []int{0, 1, 2, 126, 127, 128, 129, 300, api.MaxNumber - 1, api.MaxNumber, api.MaxNumber + 1, math.MaxInt - 1, math.MaxInt}
	for i := range 63 {
		ns = append(ns, 1<<i-1, 1<<i, 1<<i+1)
	}
	x := uint64(12345)
	for i := range 500 {
		x = x*6364136223846793005 + 1442695040888963407
		ns = append(ns, int(x>>1>>(i%60)))
	}
	return ns
}

func below() []int {
	return []int{-1, -2, -127, -128, -300, math.MinInt32, math.MinInt + 1, math.MinInt}
}

// numberText: a number's bytes, just as the document words them.
func numberText(n int) []byte {
	b := []byte{byte(n % 128)}
	for n /= 128; n > 0; n /= 128 {
		b[len(b)-1] += 128
		b = append(b, byte(n%128))
	}
	return b
}

func written(t *testing.T, w *Writer) string {
	t.Helper()
	b, e := w.Bytes()
	if e != api.OK {
		t.Fatalf("Bytes: %d", e)
	}
	return string(b)
}

// wantBad holds that r is bad with so many bytes left, and that it reads nothing more, though there may be something.
func wantBad(t *testing.T, r *Reader, left int) {
	t.Helper()
	for range 3 {
		if !r.Bad() || r.Left() != left || r.Done() != api.ErrForm {
			t.Fatalf("bad %v, left %d and not %d, done %d", r.Bad(), r.Left(), left, r.Done())
		}
		if n, c := r.Number(), r.Byte(); n != 0 || c != 0 {
			t.Fatalf("a bad reader tells %d, %d", n, c)
		}
		for _, b := range [][]byte{r.Text(), r.Raw(0), r.Raw(1), r.Raw(left), r.Raw(-1)} {
			if b != nil {
				t.Fatalf("a bad reader tells %x", b)
			}
		}
	}
}

func wantGood(t *testing.T, r *Reader, left int) {
	t.Helper()
	want := api.OK
	if left > 0 {
		want = api.ErrForm
	}
	if r.Bad() || r.Left() != left || r.Done() != want {
		t.Fatalf("bad %v, left %d and not %d, done %d", r.Bad(), r.Left(), left, r.Done())
	}
}

func TestNumberExamples(t *testing.T) { // P2.1, P2.2
	cases := []struct {
		number int
		text   string
	}{
		{300, "\xac\x02"},
		{0, "\x00"},
		{1, "\x01"},
		{127, "\x7f"},
		{128, "\x80\x01"},
		{16383, "\xff\x7f"},
		{16384, "\x80\x80\x01"},
		{api.MaxNumber, "\x80\x80\x80\x80\x80\x20"},
		{math.MaxInt, "\xff\xff\xff\xff\xff\xff\xff\xff\x7f"},
	}
	for _, c := range cases {
		var w Writer
		if got := written(t, w.Number(c.number)); got != c.text {
			t.Errorf("Number %d: %x, not %x", c.number, got, c.text)
		}
		r := NewReader([]byte(c.text))
		if got := r.Number(); got != c.number {
			t.Errorf("read of %x: %d, not %d", c.text, got, c.number)
		}
		wantGood(t, r, 0)
	}
}

func TestNumbersThereAndBack(t *testing.T) { // P2.1, P2.2
	for _, n := range numbers() {
		var w Writer
		got := written(t, w.Number(n))
		if got != string(numberText(n)) || got != string(binary.AppendUvarint(nil, uint64(n))) {
			t.Errorf("Number %d: %x, not %x", n, got, numberText(n))
		}
		r := NewReader([]byte(got + "\x80\x00"))
		if m := r.Number(); m != n {
			t.Errorf("read of %x: %d, not %d", got, m, n)
		}
		wantGood(t, r, 2)
	}
}

func TestSize(t *testing.T) { // P2.1
	cases := [][2]int{
		{0, 1}, {1, 1}, {127, 1}, {128, 2}, {16383, 2}, {16384, 3}, {1<<21 - 1, 3}, {1 << 21, 4}, {1<<28 - 1, 4}, {1 << 28, 5},
		{1<<35 - 1, 5}, {1 << 35, 6}, {1<<42 - 1, 6}, {1 << 42, 7}, {1<<49 - 1, 7}, {1 << 49, 8}, {1<<56 - 1, 8}, {1 << 56, 9},
		{math.MaxInt, 9}, {-1, 0}, {math.MinInt, 0},
	}
	for _, c := range cases {
		if got := Size(c[0]); got != c[1] {
			t.Errorf("Size(%d): %d, not %d", c[0], got, c[1])
		}
	}
	for _, n := range numbers() {
		if got := Size(n); got != len(numberText(n)) {
			t.Errorf("Size(%d): %d, not %d", n, got, len(numberText(n)))
		}
	}
	for _, n := range below() {
		if got := Size(n); got != 0 {
			t.Errorf("Size(%d): %d", n, got)
		}
	}
}

func TestWriterPutsBehind(t *testing.T) { // P2.1
	var w Writer
	parts := []struct {
		put  func() *Writer
		more string
	}{
		{func() *Writer { return w.Number(300) }, "\xac\x02"},
		{func() *Writer { return w.Text([]byte("ab")) }, "\x02ab"},
		{func() *Writer { return w.Raw([]byte("ab")) }, "ab"},
		{func() *Writer { return w.Byte(0) }, "\x00"},
		{func() *Writer { return w.Byte(255) }, "\xff"},
		{func() *Writer { return w.Text(nil) }, "\x00"},
		{func() *Writer { return w.Text([]byte{}) }, "\x00"},
		{func() *Writer { return w.Raw(nil) }, ""},
		{func() *Writer { return w.Raw([]byte{}) }, ""},
		{func() *Writer { return w.Number(0) }, "\x00"},
		{func() *Writer { return w.Text(bytes.Repeat([]byte{128}, 127)) }, "\x7f" + string(bytes.Repeat([]byte{128}, 127))},
		{func() *Writer { return w.Text(bytes.Repeat([]byte{7}, 128)) }, "\x80\x01" + string(bytes.Repeat([]byte{7}, 128))},
		{func() *Writer { return w.Raw([]byte{0, 255}) }, "\x00\xff"},
	}
	want := ""
	for i, p := range parts {
		if p.put() != &w {
			t.Errorf("part %d: another writer is told", i)
		}
		want += p.more
		for range 2 { // asking changes nothing
			if got := written(t, &w); got != want {
				t.Fatalf("part %d: %x, not %x", i, got, want)
			}
		}
	}
}

func TestWriterWithNothing(t *testing.T) { // P2.1
	for _, w := range []*Writer{{}, new(Writer)} {
		if got := written(t, w); got != "" {
			t.Errorf("Bytes of nothing: %x", got)
		}
		if got := written(t, w.Raw(nil)); got != "" {
			t.Errorf("Bytes of nothing put: %x", got)
		}
	}
}

func TestWriterGoesBad(t *testing.T) { // P2.1
	for _, n := range below() {
		for _, w := range []*Writer{{}, new(Writer).Number(5), new(Writer).Text([]byte("ahead"))} {
			if w.Number(n) != w {
				t.Errorf("Number(%d) tells another writer", n)
			}
			for range 2 {
				if b, e := w.Bytes(); len(b) != 0 || e != api.ErrForm {
					t.Errorf("Bytes behind Number(%d): %x, %d", n, b, e)
				}
			}
			w.Number(1).Text([]byte("a")).Raw([]byte("b")).Byte(3)
			if b, e := w.Bytes(); len(b) != 0 || e != api.ErrForm {
				t.Errorf("Bytes, more put behind Number(%d): %x, %d", n, b, e)
			}
		}
	}
}

func TestWritersAreApart(t *testing.T) { // P2.1
	var bad, good Writer
	bad.Number(-1).Byte(1)
	if got := written(t, good.Byte(2)); got != "\x02" {
		t.Errorf("another writer's bytes: %x", got)
	}
}

func TestReadInOrder(t *testing.T) { // P2.2, P2.3
	r := NewReader([]byte("\xac\x02\x02ab\x07zyx\x00\x00"))
	wantGood(t, r, 11)
	if n := r.Number(); n != 300 {
		t.Errorf("Number: %d", n)
	}
	wantGood(t, r, 9)
	if b := r.Text(); string(b) != "ab" {
		t.Errorf("Text: %x", b)
	}
	wantGood(t, r, 6)
	if c := r.Byte(); c != 7 {
		t.Errorf("Byte: %d", c)
	}
	wantGood(t, r, 5)
	if b := r.Raw(0); len(b) != 0 {
		t.Errorf("Raw(0): %x", b)
	}
	wantGood(t, r, 5)
	if b := r.Raw(3); string(b) != "zyx" {
		t.Errorf("Raw(3): %x", b)
	}
	wantGood(t, r, 2)
	if b := r.Text(); len(b) != 0 {
		t.Errorf("Text of no bytes: %x", b)
	}
	wantGood(t, r, 1)
	if n := r.Number(); n != 0 {
		t.Errorf("Number 0: %d", n)
	}
	wantGood(t, r, 0)
	if b := r.Raw(0); len(b) != 0 {
		t.Errorf("Raw(0) at the end: %x", b)
	}
	wantGood(t, r, 0)
}

func TestReadOfNothing(t *testing.T) { // P2.2, P2.3
	for _, b := range [][]byte{nil, {}} {
		wantGood(t, NewReader(b), 0)
		reads := []func(*Reader){
			func(r *Reader) { r.Number() },
			func(r *Reader) { r.Text() },
			func(r *Reader) { r.Byte() },
			func(r *Reader) { r.Raw(1) },
			func(r *Reader) { r.Raw(-1) },
		}
		for _, read := range reads {
			r := NewReader(b)
			read(r)
			wantBad(t, r, 0)
		}
	}
}

func TestReadWrongNumbers(t *testing.T) { // P2.2
	cases := []string{
		"",
		"\x80", "\xff", "\x80\x80", "\xff\xff\xff", // cut off
		"\x80\x00", "\xff\x00", "\x80\x80\x00", "\x81\x80\x00", "\x80\x00\x01", // not as short as can be
		"\x80\x80\x80\x80\x80\x80\x80\x80\x00",
		"\xff\xff\xff\xff\xff\xff\xff\xff", // eight, and a ninth to come
		"\xff\xff\xff\xff\xff\xff\xff\xff\xff",
		"\xff\xff\xff\xff\xff\xff\xff\xff\xff\x01", // ten
		"\x80\x80\x80\x80\x80\x80\x80\x80\x80\x01",
		"\x80\x80\x80\x80\x80\x80\x80\x80\x80\x00",
		"\xff\xff\xff\xff\xff\xff\xff\xff\xff\xff\xff\x01",
		string(bytes.Repeat([]byte{255}, 40)),
		"\x80\x00 and more behind it",
	}
	for _, c := range cases {
		r := NewReader([]byte(c))
		if n := r.Number(); n != 0 {
			t.Errorf("Number of %x: %d", c, n)
		}
		wantBad(t, r, len(c))
		r = NewReader([]byte(c))
		if b := r.Text(); b != nil {
			t.Errorf("Text of %x: %x", c, b)
		}
		wantBad(t, r, len(c))
		r = NewReader([]byte("\x05" + c))
		if n := r.Number(); n != 5 {
			t.Errorf("Number ahead of %x: %d", c, n)
		}
		wantGood(t, r, len(c))
		r.Number()
		wantBad(t, r, len(c))
	}
}

// TestReadAnyShort: of all short bytes, Number tells just what the number's own bytes are.
func TestReadAnyShort(t *testing.T) { // P2.2
	parts := []byte{0, 1, 2, 126, 127, 128, 129, 255}
	layer := [][]byte{{}}
	for range 5 {
		var next [][]byte
		for _, b := range layer {
			want, size := binary.Uvarint(b)
			size = max(size, 0)
			there := size > 0 && bytes.Equal(b[:size], numberText(int(want)))
			r := NewReader(b)
			n := r.Number()
			if there {
				if n != int(want) {
					t.Fatalf("Number of %x: %d, not %d", b, n, want)
				}
				wantGood(t, r, len(b)-size)
			} else {
				if n != 0 {
					t.Fatalf("Number of %x: %d", b, n)
				}
				wantBad(t, r, len(b))
			}
			for _, c := range parts {
				next = append(next, append(bytes.Clone(b), c))
			}
		}
		layer = next
	}
}

func TestReadWrongTexts(t *testing.T) { // P2.2
	cases := []string{
		"\x01", "\x02a", "\x03\x01\x02", "\x80\x01" + string(make([]byte, 127)),
		"\x81\x00a", // its count isn't as short as can be
		"\xff\xff\xff\xff\xff\xff\xff\xff\x7f" + "abc",
		"\xff\xff\xff\xff\xff\xff\xff\xff\xff\x01" + "abc",
	}
	for _, c := range cases {
		r := NewReader([]byte(c))
		if b := r.Text(); b != nil {
			t.Errorf("Text of %x: %x", c, b)
		}
		wantBad(t, r, len(c))
	}
	for _, n := range []int{0, 1, 127, 128, 129, api.MaxValue, api.MaxZone} {
		want := bytes.Repeat([]byte{200}, n)
		r := NewReader(append(numberText(n), want...))
		if b := r.Text(); !bytes.Equal(b, want) {
			t.Errorf("Text of %d bytes: %d bytes", n, len(b))
		}
		wantGood(t, r, 0)
	}
}

func TestReadWrongRaw(t *testing.T) { // P2.2
	for _, n := range append(below(), 4, 5, 300, math.MaxInt-1, math.MaxInt) {
		r := NewReader([]byte("abc"))
		if b := r.Raw(n); b != nil {
			t.Errorf("Raw(%d): %x", n, b)
		}
		wantBad(t, r, 3)
		r = NewReader([]byte("abcd"))
		r.Byte()
		if b := r.Raw(n); b != nil {
			t.Errorf("Raw(%d) behind a byte: %x", n, b)
		}
		wantBad(t, r, 3)
	}
	for n := range 4 {
		r := NewReader([]byte("abc"))
		if b := r.Raw(n); string(b) != "abc"[:n] {
			t.Errorf("Raw(%d): %x", n, b)
		}
		wantGood(t, r, 3-n)
	}
}

func TestReadEachByte(t *testing.T) { // P2.2
	all := make([]byte, 256)
	for i := range all {
		all[i] = byte(i)
	}
	r := NewReader(all)
	for i := range all {
		if c := r.Byte(); c != byte(i) {
			t.Errorf("Byte %d: %d", i, c)
		}
		wantGood(t, r, 255-i)
	}
	if c := r.Byte(); c != 0 {
		t.Errorf("Byte past the end: %d", c)
	}
	wantBad(t, r, 0)
}

func TestDone(t *testing.T) { // P2.3
	r := NewReader([]byte{1, 2})
	for i, want := range []api.Errno{api.ErrForm, api.ErrForm, api.OK, api.ErrForm} {
		if got := r.Done(); got != want {
			t.Errorf("Done behind %d bytes: %d, not %d", i, got, want)
		}
		r.Byte()
	}
	if !r.Bad() || r.Left() != 0 {
		t.Errorf("bad %v, left %d", r.Bad(), r.Left())
	}
}

// TestWhatIsWrittenIsRead: things of all kinds, mixed, come back just so.
func TestWhatIsWrittenIsRead(t *testing.T) { // P2.1, P2.2, P2.3
	x := uint64(99)
	next := func(n int) int {
		x = x*6364136223846793005 + 1442695040888963407
		return int(x>>33) % n
	}
	for range 300 {
		var w Writer
		var checks []func(r *Reader) bool
		size := 0
		for range next(20) {
			n, b, c := 1<<next(63)+next(1000)-1, bytes.Repeat([]byte{byte(next(256))}, next(200)), byte(next(256))
			switch next(4) {
			case 0:
				w.Number(n)
				size += Size(n)
				checks = append(checks, func(r *Reader) bool { return r.Number() == n })
			case 1:
				w.Text(b)
				size += Size(len(b)) + len(b)
				checks = append(checks, func(r *Reader) bool { return bytes.Equal(r.Text(), b) })
			case 2:
				w.Raw(b)
				size += len(b)
				checks = append(checks, func(r *Reader) bool { return bytes.Equal(r.Raw(len(b)), b) })
			case 3:
				w.Byte(c)
				size++
				checks = append(checks, func(r *Reader) bool { return r.Byte() == c })
			}
		}
		all := written(t, &w)
		if len(all) != size {
			t.Fatalf("%d bytes, not %d", len(all), size)
		}
		r := NewReader([]byte(all))
		for i, check := range checks {
			if !check(r) {
				t.Fatalf("thing %d of %x is not what was written", i, all)
			}
		}
		wantGood(t, r, 0)
	}
}

func TestReaderKeepsNoArgument(t *testing.T) { // P2.4
	room := []byte("ahead\x03abc\x05xybehind")
	b := room[5:12]
	r := NewReader(b)
	if got := r.Text(); string(got) != "abc" {
		t.Errorf("Text: %q", got)
	}
	clear(room)
	if n, got := r.Number(), r.Raw(2); n != 5 || string(got) != "xy" {
		t.Errorf("behind a change of what was handed in: %d, %q", n, got)
	}
}

func TestReaderChangesNoArgument(t *testing.T) { // P2.4
	room := []byte("ahead\x03abc\x05xybehind")
	r := NewReader(room[5:12])
	for _, b := range [][]byte{r.Text(), r.Raw(1), r.Raw(2), r.Raw(0)} {
		b = append(b, "more"...)
		clear(b[:cap(b)])
	}
	r.Byte()
	if string(room) != "ahead\x03abc\x05xybehind" {
		t.Errorf("what was handed in was changed: %q", room)
	}
}

func TestReadPiecesAreNewMemory(t *testing.T) { // P2.4
	r := NewReader([]byte("\x03abc\x00\x02dexyz\x09"))
	first, nothing := r.Text(), r.Text()
	spoil := func(b []byte) {
		clear(append(b, "longer than all that is left"...))
		clear(b[:cap(b)])
	}
	second := r.Text()
	spoil(nothing)
	spoil(first)
	if string(second) != "de" {
		t.Errorf("a text told ahead was changed: %q", second)
	}
	spoil(second)
	if b := r.Raw(3); string(b) != "xyz" {
		t.Errorf("what was not read yet was changed: %q", b)
	}
	if n := r.Number(); n != 9 || r.Done() != api.OK {
		t.Errorf("what was not read yet was changed: %d", n)
	}
	if string(first) != "\x00\x00\x00" || string(second) != "\x00\x00" {
		t.Errorf("texts told were changed: %q, %q", first, second)
	}
}

func TestReadersAreApart(t *testing.T) { // P2.4
	b := []byte("\x02ab")
	one, two := NewReader(b), NewReader(b)
	clear(one.Text())
	if got := two.Text(); string(got) != "ab" || string(b) != "\x02ab" {
		t.Errorf("two readers share: %q, %q", got, b)
	}
}

func TestWriterKeepsNoArgument(t *testing.T) { // P2.4
	var w Writer
	room := []byte("ahead,text,raw,behind")
	w.Raw(room[11:14]).Text(room[6:10])
	if string(room) != "ahead,text,raw,behind" {
		t.Errorf("what was handed in was changed: %q", room)
	}
	clear(room)
	if got := written(t, w.Byte('!')); got != "raw\x04text!" || !bytes.Equal(room, make([]byte, len(room))) {
		t.Errorf("Bytes: %q; handed in: %q", got, room)
	}
}

func TestWrittenBytesAreNewMemory(t *testing.T) { // P2.4
	var w Writer
	for n := range 70 { // whatever room the writer has got
		want := bytes.Repeat([]byte("w"), n)
		one, _ := w.Bytes()
		two, _ := w.Bytes()
		clear(append(one, 'x'))
		clear(one[:cap(one)])
		if got := written(t, &w); !bytes.Equal(two, want) || got != string(want) {
			t.Errorf("answers share their memory: %q, %q", two, got)
		}
		w.Byte('w')
		if !bytes.Equal(two, want) || !bytes.Equal(two[:cap(two)][n:], make([]byte, cap(two)-n)) {
			t.Errorf("an answer was changed: %q", two[:cap(two)])
		}
	}
}
