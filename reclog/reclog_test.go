package reclog

import (
	"bytes"
	"encoding/binary"
	"fmt"
	"hash/crc32"
	"math"
	"math/bits"
	"slices"
	"strings"
	"testing"

	"tithebarn/api"
	"tithebarn/zone"
)

// numberOf: a number as the document words it.
func numberOf(n int) string {
	return string(binary.AppendUvarint(nil, uint64(n)))
}

// sealed: a text behind the mask of its sum.
func sealed(body string) string {
	c := crc32.Checksum([]byte(body), crc32.MakeTable(crc32.Castagnoli))
	return string(binary.BigEndian.AppendUint32(nil, bits.RotateLeft32(c, -15)+0xa282ead8)) + body
}

// frameOf: a record's frame as the document words it.
func frameOf(record string) string {
	return sealed(numberOf(len(record)) + record)
}

// framesOf: those of several records, one behind the other.
func framesOf(records ...string) string {
	all := ""
	for _, r := range records {
		all += frameOf(r)
	}
	return all
}

// firstOf: the record whose frame a text begins with, if there is one; each number of bytes is tried.
func firstOf(text string) (string, bool) {
	for n := range len(text) {
		head := 4 + len(numberOf(n))
		if head+n > len(text) {
			return "", false
		}
		if text[4:head] == numberOf(n) && text[:head+n] == frameOf(text[head:head+n]) {
			return text[head : head+n], true
		}
	}
	return "", false
}

// scanOf: a text read as frames, as the document words it.
func scanOf(text string) (records []string, end int) {
	for {
		r, ok := firstOf(text[end:])
		if !ok {
			return records, end
		}
		records = append(records, r)
		end += len(frameOf(r))
	}
}

// textsOf: lists of bytes as texts.
func textsOf(l [][]byte) []string {
	texts := []string{}
	for _, b := range l {
		texts = append(texts, string(b))
	}
	return texts
}

// text: n bytes, which are not the same at each n.
func text(n int) string {
	b := make([]byte, n)
	for i := range b {
		b[i] = byte(n + i*7)
	}
	return string(b)
}

// random: numbers that are the same at each run.
func random(seed uint64) func(n int) int {
	return func(n int) int {
		seed = seed*6364136223846793005 + 1442695040888963407
		return int((seed >> 33) % uint64(n))
	}
}

// noZones: numbers of which a device of so many zones has none.
func noZones(zones int) []int {
	return []int{-1, zones, math.MinInt, -zones, zones + 1, math.MaxInt, 1 << 32, -1 << 32}
}

// model: a log as the document words it; its own device, on which the same is done, tells what layer 7 answers.
type model struct {
	d     *zone.Device
	zones []int
}

func (m *model) grow(z int) api.Errno {
	if m.d.State(z) != 0 || slices.Contains(m.zones, z) {
		return api.ErrState
	}
	m.zones = append(m.zones, z)
	return api.OK
}

func (m *model) room() int {
	for i, z := range m.zones {
		if i == len(m.zones)-1 {
			return m.d.Room(z)
		}
	}
	return 0
}

func (m *model) append(record string) (int, int, api.Errno) {
	f := frameOf(record)
	switch {
	case len(f) > m.d.Geometry().Size:
		return 0, 0, api.ErrTooLarge
	case len(m.zones) == 0:
		return 0, 0, api.ErrNoZone
	case len(f) > m.room():
		return 0, 0, api.ErrFull
	}
	z := m.zones[len(m.zones)-1]
	at := m.d.Pointer(z)
	if e := m.d.Append(z, []byte(f)); e != api.OK {
		return 0, 0, e
	}
	return z, at, api.OK
}

// replay: zones behind one with torn bytes do not count; neither are they read.
func (m *model) replay() ([]string, bool, api.Errno) {
	all := []string{}
	for _, z := range m.zones {
		b, e := m.d.Read(z, 0, m.d.Pointer(z))
		if e != api.OK {
			return nil, false, e
		}
		records, end := scanOf(string(b))
		all = append(all, records...)
		if end < len(b) {
			return all, false, api.OK
		}
	}
	return all, true, api.OK
}

// readAt: a frame of less than no bytes has no bytes, by Size, so none are read.
func (m *model) readAt(z, at, n int) (string, api.Errno) {
	size := 0
	switch {
	case n > api.MaxZone:
		size = api.MaxZone + 1
	case n >= 0:
		size = 4 + len(numberOf(n)) + n
	}
	b, e := m.d.Read(z, at, size)
	if e != api.OK {
		return "", e
	}
	if n < 0 || string(b) != frameOf(string(b[size-n:])) {
		return "", api.ErrSum
	}
	return string(b[size-n:]), api.OK
}

// pair: a log and its model, with a device for each; the same is done to both. Each call is held against the model, and all that can be asked behind it.
type pair struct {
	t *testing.T
	l *Log
	d *zone.Device
	m *model
}

// newPair: a log of these zones of a device of so many, of so many bytes, of which so many may be open.
func newPair(t *testing.T, g zone.Geometry, zones ...int) *pair {
	t.Helper()
	p := &pair{t: t, d: zone.New(g), m: &model{d: zone.New(g), zones: slices.Clone(zones)}}
	if p.d == nil {
		t.Fatalf("no device of %v", g)
	}
	p.l = New(p.d, zones...)
	if p.l == nil {
		t.Fatalf("New(%v): nil", zones)
	}
	p.asked("New")
	return p
}

// small: a geometry of few zones, of 20 bytes.
func small(zones, open int) zone.Geometry {
	return zone.Geometry{Zones: zones, Size: 20, Open: open}
}

// anew: from now on there is a log of these zones of the same device.
func (p *pair) anew(zones ...int) {
	p.t.Helper()
	p.l, p.m.zones = New(p.d, zones...), slices.Clone(zones)
	p.asked("New")
}

// told holds an error against the model's, and, if there is one that is asked for, against that.
func (p *pair) told(call string, e, models api.Errno, want []api.Errno) {
	p.t.Helper()
	if e != models || len(want) > 0 && e != want[0] {
		p.t.Fatalf("%s: %d, not %d %v", call, e, models, want)
	}
	p.asked(call)
}

func (p *pair) grow(z int, want ...api.Errno) {
	p.t.Helper()
	p.told(fmt.Sprintf("Grow(%d)", z), p.l.Grow(z), p.m.grow(z), want)
}

func (p *pair) append(record string, want ...api.Errno) {
	p.t.Helper()
	call := fmt.Sprintf("Append of %d bytes", len(record))
	z, at, e := p.l.Append([]byte(record))
	mz, mat, models := p.m.append(record)
	if z != mz || at != mat {
		p.t.Fatalf("%s: %d, %d; not %d, %d", call, z, at, mz, mat)
	}
	p.told(call, e, models, want)
}

// lands: the record is appended, and its frame begins there.
func (p *pair) lands(record string, z, at int) {
	p.t.Helper()
	gotZ, gotAt, e := p.l.Append([]byte(record))
	if gotZ != z || gotAt != at || e != api.OK {
		p.t.Fatalf("Append of %d bytes: %d, %d, %d; not %d, %d", len(record), gotZ, gotAt, e, z, at)
	}
	p.m.append(record)
	p.asked("Append")
}

func (p *pair) sync(want ...api.Errno) {
	p.t.Helper()
	p.told("Sync", p.l.Sync(), p.m.d.Flush(), want)
}

// raw: bytes are laid on the device, whatever the log is.
func (p *pair) raw(z int, b string, want ...api.Errno) {
	p.t.Helper()
	p.told("raw bytes", p.d.Append(z, []byte(b)), p.m.d.Append(z, []byte(b)), want)
}

func (p *pair) finish(z int, want ...api.Errno) {
	p.t.Helper()
	p.told("Finish", p.d.Finish(z), p.m.d.Finish(z), want)
}

func (p *pair) reset(z int, want ...api.Errno) {
	p.t.Helper()
	p.told("Reset", p.d.Reset(z), p.m.d.Reset(z), want)
}

func (p *pair) arm(n int) {
	p.d.Arm(n)
	p.m.d.Arm(n)
}

// noPower: the device is down from now on; nothing else has changed.
func (p *pair) noPower() {
	p.t.Helper()
	p.arm(0)
	p.sync(api.ErrDown)
}

func (p *pair) crash(keep ...int) {
	p.t.Helper()
	p.d.Crash(keep...)
	p.m.d.Crash(keep...)
	p.asked("Crash")
}

// replays holds Replay against what is asked for.
func (p *pair) replays(whole bool, want ...string) {
	p.t.Helper()
	records, w, e := p.l.Replay()
	if !slices.Equal(textsOf(records), want) || w != whole || e != api.OK {
		p.t.Fatalf("Replay: %q, %t, %d; not %q, %t", records, w, e, want, whole)
	}
}

// replayFails: it tells that error, and nothing else.
func (p *pair) replayFails(want api.Errno) {
	p.t.Helper()
	if records, w, e := p.l.Replay(); len(records) != 0 || w || e != want {
		p.t.Fatalf("Replay: %q, %t, %d; not %d", records, w, e, want)
	}
}

// reads holds ReadAt against what is asked for.
func (p *pair) reads(z, at int, want string) {
	p.t.Helper()
	if b, e := p.l.ReadAt(z, at, len(want)); string(b) != want || e != api.OK {
		p.t.Fatalf("ReadAt(%d, %d, %d): %q, %d; not %q", z, at, len(want), b, e, want)
	}
}

func (p *pair) readFails(z, at, n int, want api.Errno) {
	p.t.Helper()
	if b, e := p.l.ReadAt(z, at, n); len(b) != 0 || e != want {
		p.t.Fatalf("ReadAt(%d, %d, %d): %q, %d; not %d", z, at, n, b, e, want)
	}
}

// stands holds the log's zones and room against what is asked for.
func (p *pair) stands(room int, zones ...int) {
	p.t.Helper()
	if !slices.Equal(p.l.Zones(), zones) || p.l.Room() != room {
		p.t.Fatalf("zones %v, room %d; not %v, %d", p.l.Zones(), p.l.Room(), zones, room)
	}
}

// asked asks all that can be asked, and holds it against the model.
func (p *pair) asked(call string) {
	p.t.Helper()
	if zones := p.l.Zones(); !slices.Equal(zones, p.m.zones) || p.l.Room() != p.m.room() {
		p.t.Fatalf("behind %s: zones %v, room %d; not %v, %d", call, zones, p.l.Room(), p.m.zones, p.m.room())
	}
	records, whole, e := p.l.Replay()
	texts, w, models := p.m.replay()
	if !slices.Equal(textsOf(records), texts) || whole != w || e != models {
		p.t.Fatalf("behind %s: %q, %t, %d; not %q, %t, %d", call, records, whole, e, texts, w, models)
	}
	for z := range p.d.Geometry().Zones {
		p.askedAt(call, z)
	}
	p.sameDevices(call)
}

// askedAt: each record of a zone is read where it stands, as well as with one byte less.
func (p *pair) askedAt(call string, z int) {
	p.t.Helper()
	b, e := p.m.d.Read(z, 0, p.m.d.Pointer(z))
	if e != api.OK {
		p.sameRead(call, z, 0, 0)
		return
	}
	at := 0
	records, _ := scanOf(string(b))
	for _, r := range records {
		p.sameRead(call, z, at, len(r))
		p.sameRead(call, z, at, len(r)-1)
		at += len(frameOf(r))
	}
	p.sameRead(call, z, at, 0) // behind the last one
}

func (p *pair) sameRead(call string, z, at, n int) {
	p.t.Helper()
	b, e := p.l.ReadAt(z, at, n)
	if want, models := p.m.readAt(z, at, n); string(b) != want || e != models {
		p.t.Fatalf("behind %s, ReadAt(%d, %d, %d): %q, %d; not %q, %d", call, z, at, n, b, e, want, models)
	}
}

// sameDevices: the log does to the device just that which the model does.
func (p *pair) sameDevices(call string) {
	p.t.Helper()
	d, m := p.d, p.m.d
	if d.Done() != m.Done() || d.Down() != m.Down() {
		p.t.Fatalf("behind %s: %d commands done, down %t; not %d, %t", call, d.Done(), d.Down(), m.Done(), m.Down())
	}
	for z := range d.Geometry().Zones {
		b, _ := d.Read(z, 0, d.Pointer(z))
		models, _ := m.Read(z, 0, m.Pointer(z))
		if !bytes.Equal(b, models) || d.State(z) != m.State(z) || d.Pointer(z) != m.Pointer(z) || d.Flushed(z) != m.Flushed(z) {
			p.t.Fatalf("behind %s, zone %d of the device: %q, state %d, %d bytes, %d flushed; not %q, %d, %d, %d", call, z,
				b, d.State(z), d.Pointer(z), d.Flushed(z), models, m.State(z), m.Pointer(z), m.Flushed(z))
		}
	}
}

func TestExamples(t *testing.T) { // P9.1
	if Size(0) != 5 || Size(200) != 206 {
		t.Errorf("Size: %d, %d", Size(0), Size(200))
	}
	b := append(Frame([]byte("one")), Frame([]byte("two"))...)
	for cut := Size(3); cut < len(b); cut++ {
		if l, end := Scan(b[:cut]); !slices.Equal(textsOf(l), []string{"one"}) || end != 8 {
			t.Errorf("Scan of %d bytes: %q, %d", cut, l, end)
		}
	}
}

func TestFrame(t *testing.T) { // P9.1
	for _, c := range []struct{ record, want string }{
		{"", "\x49\x25\x8f\xd2\x00"},
		{"a", "\xa2\x0b\xcd\xb5\x01a"},
		{"one", "\x49\x5d\xac\x43\x03one"},
		{strings.Repeat("\x00", 200), "\x50\x0c\x33\x38\xc8\x01" + strings.Repeat("\x00", 200)},
	} {
		if got := string(Frame([]byte(c.record))); got != c.want {
			t.Errorf("Frame(%q): %x, not %x", c.record, got, c.want)
		}
	}
	if got := string(Frame(nil)); got != frameOf("") {
		t.Errorf("Frame(nil): %x", got)
	}
	for c := range 256 {
		r := string([]byte{byte(c)})
		if got := string(Frame([]byte(r))); got != frameOf(r) {
			t.Errorf("Frame(%q): %x, not %x", r, got, frameOf(r))
		}
	}
	for n := range 300 {
		if got := string(Frame([]byte(text(n)))); got != frameOf(text(n)) {
			t.Errorf("Frame of %d bytes: %x, not %x", n, got, frameOf(text(n)))
		}
	}
}

func TestFrameAsItsNumberGrows(t *testing.T) { // P9.1
	for groups := 1; groups <= 3; groups++ {
		grows := 1 << (7 * groups)
		for n := grows - 2; n <= grows+1; n++ {
			f := Frame([]byte(text(n)))
			head := 4 + groups
			if n >= grows {
				head++
			}
			if string(f) != frameOf(text(n)) || len(f) != head+n || Size(n) != head+n {
				t.Errorf("Frame of %d bytes: %d bytes, Size %d, not %d", n, len(f), Size(n), head+n)
			}
			if l, end := Scan(f); len(l) != 1 || string(l[0]) != text(n) || end != len(f) {
				t.Errorf("Scan of a frame of %d bytes: %d records, %d", n, len(l), end)
			}
			if l, end := Scan(f[:len(f)-1]); len(l) != 0 || end != 0 {
				t.Errorf("Scan of a frame of %d bytes, cut off: %d records, %d", n, len(l), end)
			}
		}
	}
}

func TestSize(t *testing.T) { // P9.1
	for n := range 70000 {
		if want := 4 + len(numberOf(n)) + n; Size(n) != want {
			t.Fatalf("Size(%d): %d, not %d", n, Size(n), want)
		}
	}
	for groups := 1; groups <= 8; groups++ {
		grows := 1 << (7 * groups)
		if Size(grows-1) != 4+groups+grows-1 || Size(grows) != 4+groups+1+grows {
			t.Errorf("Size(%d), Size(%d): %d, %d", grows-1, grows, Size(grows-1), Size(grows))
		}
	}
	if n := math.MaxInt - 13; Size(n) != math.MaxInt {
		t.Errorf("Size(%d): %d", n, Size(n))
	}
	for _, n := range []int{-1, -2, -5, -127, -128, -1 << 32, math.MinInt, math.MinInt + 1} {
		if Size(n) != 0 {
			t.Errorf("Size(%d): %d", n, Size(n))
		}
	}
}

// scans holds Scan of a text against what is asked for, and against the model.
func scans(t *testing.T, b string, end int, want ...string) {
	t.Helper()
	l, got := Scan([]byte(b))
	if !slices.Equal(textsOf(l), want) || got != end {
		t.Fatalf("Scan(%x): %q, %d; not %q, %d", b, l, got, want, end)
	}
	if records, models := scanOf(b); !slices.Equal(records, want) || models != end {
		t.Fatalf("the model of Scan(%x): %q, %d; not %q, %d", b, records, models, want, end)
	}
}

// scansAlike holds Scan of a text against the model.
func scansAlike(t *testing.T, b string) {
	t.Helper()
	records, end := scanOf(b)
	scans(t, b, end, records...)
}

func TestScan(t *testing.T) { // P9.1
	scans(t, "", 0)
	if l, end := Scan(nil); len(l) != 0 || end != 0 {
		t.Errorf("Scan(nil): %q, %d", l, end)
	}
	scans(t, frameOf(""), 5, "")
	scans(t, frameOf("a"), 6, "a")
	scans(t, framesOf("", ""), 10, "", "")
	scans(t, framesOf("one", "", "three", "one"), 8+5+10+8, "one", "", "three", "one")
	scans(t, framesOf(text(127), text(128), "x"), 132+134+6, text(127), text(128), "x")
	scans(t, frameOf(framesOf("a", "b")), 17, framesOf("a", "b")) // what stands within a record is none
}

func TestScanOfTornBytes(t *testing.T) { // P9.1
	all := []string{"one", "", text(130), "four"}
	ends := []int{0, 8, 13, 149, 158}
	b := framesOf(all...)
	for cut := range len(b) + 1 {
		n := 0
		for n < len(all) && ends[n+1] <= cut {
			n++
		}
		scans(t, b[:cut], ends[n], all[:n]...)
	}
	for _, torn := range []string{"\x00", "x", "\x00\x00\x00\x00\x00", "\xff\xff\xff\xff\xff\xff\xff\xff\xff\xff\xff\xff\xff\xff", text(50), b[1:]} {
		scans(t, b+torn, len(b), all...)
		scans(t, torn, 0)
		scans(t, torn+b, 0) // whole frames behind them do not count
	}
}

func TestScanOfAFrameWithAByteTurned(t *testing.T) { // P9.1
	ahead, f, behind := frameOf("ab"), frameOf("cde"), frameOf("f")
	for i := range f { // 0 to 3 are the sum, 4 the number, the others the record
		for by := 1; by < 256; by++ {
			spoilt := f[:i] + string([]byte{f[i] ^ byte(by)}) + f[i+1:]
			scans(t, ahead+spoilt+behind, len(ahead), "ab")
			scans(t, spoilt, 0)
		}
	}
	long := frameOf(text(300))
	for i := range long {
		spoilt := long[:i] + string([]byte{long[i] ^ 1<<(i%8)}) + long[i+1:]
		scans(t, ahead+spoilt+behind, len(ahead), "ab")
	}
}

func TestScanOfWrongNumbers(t *testing.T) { // P9.1: by the right sums, but no frames
	ahead := frameOf("ab")
	for _, c := range []struct{ number, rest string }{
		{numberOf(1), ""}, {numberOf(4), "abc"}, {numberOf(128), text(127)}, {numberOf(1 << 20), "abc"}, // more than there is
		{numberOf(1 << 31), "abc"}, {numberOf(1 << 40), "abc"}, {numberOf(math.MaxInt), "abc"}, {numberOf(math.MaxInt - 5), "abc"},
		{"\x80\x00", ""}, {"\x83\x00", "abc"}, {"\x83\x80\x00", "abc"}, {"\x83\x80\x80\x80\x80\x80\x80\x80\x00", "abc"}, {"\xff\x80\x00", text(127)}, // longer than it needs
		{"\x83\x80\x80\x80\x80\x80\x80\x80\x80\x00", "abc"}, {"\xff\xff\xff\xff\xff\xff\xff\xff\xff\x01", "abc"}, // more than nine bytes
		{"\x80", ""}, {"\xff\xff\xff", ""}, {"\x80\x80\x80\x80\x80\x80\x80\x80\x80", ""}, // no end of it
	} {
		b := sealed(c.number + c.rest)
		scans(t, b, 0)
		scans(t, ahead+b, len(ahead), "ab")
		scans(t, ahead+b+frameOf("c"), len(ahead), "ab")
	}
	less := sealed(numberOf(2) + "abc") // the sum is of more than the frame
	scans(t, less, 0)
	scans(t, sealed(""), 0) // no number at all
}

func TestScanOfOtherSums(t *testing.T) { // P9.1: the mask of the sum of all behind it, not another one
	body := numberOf(3) + "abc"
	c := crc32.Checksum([]byte(body), crc32.MakeTable(crc32.Castagnoli))
	mask := bits.RotateLeft32(c, -15) + 0xa282ead8
	for _, word := range []uint32{c, bits.ReverseBytes32(mask), bits.RotateLeft32(c, 15) + 0xa282ead8, mask - 0xa282ead8, 0, ^mask, crc32.ChecksumIEEE([]byte(body))} {
		scans(t, string(binary.BigEndian.AppendUint32(nil, word))+body, 0)
	}
	scans(t, string(binary.BigEndian.AppendUint32(nil, mask))+body, 8, "abc")
	scans(t, sealed("abc")[:4]+body, 0) // of the record alone
}

func TestScanOfManyFrames(t *testing.T) { // P9.1
	const n = 300000
	b := strings.Repeat(framesOf("", "ab"), n)
	l, end := Scan([]byte(b))
	if len(l) != 2*n || end != len(b) {
		t.Fatalf("Scan: %d records, %d", len(l), end)
	}
	for i, r := range l {
		if want := []string{"", "ab"}[i%2]; string(r) != want {
			t.Fatalf("record %d: %q", i, r)
		}
	}
}

func TestScansAreTheModels(t *testing.T) { // P9.1
	for seed := range 3000 {
		r := random(uint64(seed))
		b := ""
		for range r(5) {
			b += frameOf(text(r(9)))
		}
		for range r(3) {
			switch r(4) {
			case 0:
				b = b[:r(len(b)+1)]
			case 1:
				b += text(r(6))
			case 2:
				at := r(len(b) + 1)
				b = b[:at] + frameOf(text(r(3))) + b[at:]
			case 3:
				if len(b) > 0 {
					at := r(len(b))
					b = b[:at] + string([]byte{byte(r(256))}) + b[at+1:]
				}
			}
		}
		scansAlike(t, b)
	}
}

func TestNew(t *testing.T) { // P9.2
	p := newPair(t, small(3, 2))
	p.stands(0)
	p.replays(true)
	p.append("a", api.ErrNoZone)
	p = newPair(t, small(3, 2), 1)
	p.stands(20, 1)
	p.lands("a", 1, 0)
	p = newPair(t, small(3, 2), 2, 0, 1)
	p.stands(20, 2, 0, 1)
	p.lands("a", 1, 0) // the last one, not the greatest
	p.stands(14, 2, 0, 1)
	if p.d.Done() != 1 || p.d.State(0) != 0 || p.d.State(2) != 0 {
		t.Errorf("%d done, states %d, %d", p.d.Done(), p.d.State(0), p.d.State(2))
	}
}

func TestNewOfZonesWithRecords(t *testing.T) { // P9.2, P9.3: a log knows what was there ahead of it
	p := newPair(t, small(4, 4), 3, 1)
	p.raw(3, framesOf("ab", "c"))
	p.raw(1, frameOf("d"))
	p.raw(0, frameOf("no"))
	p.anew(3, 1)
	p.replays(true, "ab", "c", "d")
	p.stands(14, 3, 1)
	p.lands("e", 1, 6)
	p.anew(1, 3) // in another order
	p.replays(true, "d", "e", "ab", "c")
	p.stands(7, 1, 3)
	p.lands("", 3, 13)
	p.anew(1)
	p.replays(true, "d", "e")
	p.anew()
	p.replays(true)
	p.append("x", api.ErrNoZone)
}

func TestLogsOfOneDevice(t *testing.T) { // P9.2, P9.3
	d := zone.New(small(3, 3))
	a, b, same := New(d, 0), New(d, 1), New(d, 0)
	a.Append([]byte("a"))
	b.Append([]byte("b"))
	a.Append([]byte("aa"))
	for _, c := range []struct {
		l    *Log
		want []string
	}{{a, []string{"a", "aa"}}, {b, []string{"b"}}, {same, []string{"a", "aa"}}} {
		if l, whole, e := c.l.Replay(); !slices.Equal(textsOf(l), c.want) || !whole || e != api.OK {
			t.Errorf("Replay: %q, %t, %d; not %q", l, whole, e, c.want)
		}
	}
	if a.Grow(2) != api.OK || b.Grow(2) != api.OK { // it is none of b's
		t.Errorf("Grow")
	}
	if !slices.Equal(a.Zones(), []int{0, 2}) || !slices.Equal(b.Zones(), []int{1, 2}) || !slices.Equal(same.Zones(), []int{0}) {
		t.Errorf("zones %v, %v, %v", a.Zones(), b.Zones(), same.Zones())
	}
	if same.Room() != 7 {
		t.Errorf("room %d", same.Room())
	}
}

func TestGrow(t *testing.T) { // P9.2
	p := newPair(t, small(6, 5))
	p.raw(1, "")       // open, without a byte
	p.raw(2, "ab")     // open
	p.raw(3, text(20)) // full
	p.raw(4, "a")
	p.finish(4) // full, with few bytes
	for _, z := range []int{1, 2, 3, 4} {
		p.grow(z, api.ErrState)
		p.stands(0)
	}
	p.grow(5, api.OK)
	p.stands(20, 5)
	p.grow(5, api.ErrState) // it is the log's, though it is empty
	p.lands("a", 5, 0)
	p.grow(5, api.ErrState)
	p.grow(0, api.OK)
	p.stands(20, 5, 0)
	p.grow(0, api.ErrState)
	p.grow(5, api.ErrState)
	p.reset(5)
	p.grow(5, api.ErrState) // the log's first one, which is empty again
	p.stands(20, 5, 0)
	p.lands("b", 0, 0)
	p.reset(2)
	p.grow(2, api.OK)
	p.reset(3)
	p.grow(3, api.OK)
	p.stands(20, 5, 0, 2, 3)
	p.lands("c", 3, 0)
	p.replays(true, "b", "c")
	if p.d.State(2) != 0 { // Grow gives the device no command
		t.Errorf("state %d", p.d.State(2))
	}
}

func TestGrowByNoZone(t *testing.T) { // P9.2
	for _, zones := range []int{1, 3, 64} {
		p := newPair(t, small(zones, 1))
		for _, z := range noZones(zones) {
			p.grow(z, api.ErrState)
			p.stands(0)
		}
		p.grow(zones-1, api.OK)
		for _, z := range noZones(zones) {
			p.grow(z, api.ErrState)
		}
		p.stands(20, zones-1)
	}
}

func TestGrowByAllZones(t *testing.T) { // P9.2
	p := newPair(t, small(64, 64))
	want := []int{}
	for i := range 64 {
		z := (i * 37) % 64
		p.grow(z, api.OK)
		p.lands("a", z, 0)
		want = append(want, z)
	}
	p.stands(14, want...)
	for z := range 64 {
		p.grow(z, api.ErrState)
	}
}

func TestGrowWithoutPower(t *testing.T) { // P9.2: it needs no command, and tells no error of power
	p := newPair(t, small(3, 2))
	p.raw(0, "ab")
	p.noPower()
	p.grow(0, api.ErrState)
	p.grow(3, api.ErrState)
	p.grow(1, api.OK)
	p.grow(1, api.ErrState)
	p.stands(20, 1)
	p.append("a", api.ErrDown)
	p.crash()
	p.lands("a", 1, 0)
	p.arm(0)
	p.grow(2, api.OK)
	if p.d.Down() {
		t.Errorf("the power is gone")
	}
}

func TestAppend(t *testing.T) { // P9.2
	p := newPair(t, small(3, 2))
	p.append("a", api.ErrNoZone)
	p.grow(2)
	p.lands("abc", 2, 0)
	p.lands("", 2, 8)
	if _, at, e := p.l.Append(nil); at != 13 || e != api.OK {
		t.Errorf("Append(nil): %d, %d", at, e)
	}
	p.m.append("")
	p.stands(2, 2)
	p.append("", api.ErrFull)
	p.grow(0)
	p.lands("d", 0, 0)
	p.replays(true, "abc", "", "", "d")
	if b, _ := p.d.Read(2, 0, 18); string(b) != framesOf("abc", "", "") {
		t.Errorf("zone 2: %x", b)
	}
	if p.d.State(2) != 1 { // the log finishes no zone
		t.Errorf("state %d", p.d.State(2))
	}
}

func TestAppendOfAsMuchAsAZoneHas(t *testing.T) { // P9.2
	for _, size := range []int{16, 17, 20, 132, 133, 134, 200, 2048, api.MaxZone} {
		g := zone.Geometry{Zones: 2, Size: size, Open: 1}
		most := 0 // of a record
		for Size(most+1) <= size {
			most++
		}
		p := newPair(t, g)
		p.append(text(most+1), api.ErrTooLarge) // named ahead of ErrNoZone
		p.append(text(most), api.ErrNoZone)
		p.grow(1)
		p.append(text(most+1), api.ErrTooLarge)
		p.append(text(size), api.ErrTooLarge)
		p.append(text(3*size), api.ErrTooLarge)
		p.stands(size, 1)
		p.lands(text(most), 1, 0)
		p.stands(size-Size(most), 1)
		if Size(most) == size && p.d.State(1) != 2 {
			t.Errorf("state %d", p.d.State(1))
		}
		p.append(text(most+1), api.ErrTooLarge) // named ahead of ErrFull
		p.append(text(most), api.ErrFull)
		p.append("", api.ErrFull)
		p.replays(true, text(most))
		p.reads(1, 0, text(most))
	}
}

func TestAppendOfAsMuchAsThereIsRoomFor(t *testing.T) { // P9.2
	for ahead := range 11 { // 10 to 0 bytes of a record fit behind it
		p := newPair(t, small(2, 2), 0)
		p.lands(text(ahead), 0, 0)
		room := 15 - ahead
		p.stands(room, 0)
		p.append(text(room-5+1), api.ErrFull)
		p.stands(room, 0)
		p.lands(text(room-5), 0, ahead+5)
		p.stands(0, 0)
		if p.d.State(0) != 2 {
			t.Errorf("state %d", p.d.State(0))
		}
		p.append("", api.ErrFull) // not layer 7's ErrState
		p.grow(1)
		p.lands("", 1, 0)
	}
	p := newPair(t, zone.Geometry{Zones: 1, Size: 300, Open: 1}, 0)
	p.lands(text(160), 0, 0) // 166 bytes: 134 are left, as many as a frame of 128 bytes has
	p.append(text(129), api.ErrFull)
	p.lands(text(128), 0, 166)
	p.stands(0, 0)
	p = newPair(t, zone.Geometry{Zones: 1, Size: 300, Open: 1}, 0)
	p.lands(text(161), 0, 0) // 133 are left: too few for 128 bytes, one more than for 127
	p.append(text(128), api.ErrFull)
	p.lands(text(127), 0, 167)
	p.stands(1, 0)
}

func TestAppendToAFullZone(t *testing.T) { // P9.2: it has no room
	p := newPair(t, small(2, 2), 0)
	p.lands("a", 0, 0)
	p.finish(0)
	p.stands(0, 0)
	p.append("", api.ErrFull)
	p.append(text(15), api.ErrFull)
	p.append(text(16), api.ErrTooLarge)
	p.replays(true, "a")
	p.reads(0, 0, "a")
}

func TestAppendToAZoneThatIsNotThere(t *testing.T) { // P9.2: it has no room
	for _, z := range noZones(2) {
		p := newPair(t, small(2, 2), 0, z)
		p.stands(0, 0, z)
		p.append("", api.ErrFull)
		p.append(text(16), api.ErrTooLarge)
		p.replayFails(api.ErrRange)
		p.grow(1)
		p.lands("a", 1, 0)
		p.replayFails(api.ErrRange)
		p.noPower()
		p.replayFails(api.ErrDown)
	}
}

func TestAppendWhenAsManyAreOpenAsMayBe(t *testing.T) { // P9.2
	p := newPair(t, small(3, 1), 1)
	p.raw(0, "x")
	p.append("a", api.ErrOpen)
	p.append("", api.ErrOpen)
	p.append(text(15), api.ErrOpen)
	p.append(text(16), api.ErrTooLarge)
	p.stands(20, 1)
	p.replays(true)
	p.finish(0)
	p.lands("a", 1, 0)
	p.grow(2)
	p.append("b", api.ErrOpen) // the log's own zone is open
	p.finish(1)
	p.lands("b", 2, 0)
	p.lands("c", 2, 6) // one that is open already
	p.replays(true, "a", "b", "c")
}

func TestAppendWithoutPower(t *testing.T) { // P9.2
	p := newPair(t, small(3, 1))
	p.noPower()
	p.append("a", api.ErrNoZone) // named ahead of layer 7's errors
	p.append(text(16), api.ErrTooLarge)
	p.grow(0)
	p.append("a", api.ErrDown)
	p.append(text(15), api.ErrDown)
	p.append(text(16), api.ErrTooLarge)
	p.crash()
	p.lands("abcdefgh", 0, 0)
	p.grow(1)
	p.noPower()
	p.append("a", api.ErrDown) // named ahead of ErrOpen by layer 7
	p.crash(99)
	p.anew(0)
	p.noPower()
	p.append("abc", api.ErrFull)
	p.append("ab", api.ErrDown)
	p.crash(99)
	p.replays(true, "abcdefgh")
}

func TestPowerGoesAtAppend(t *testing.T) { // P9.2, P9.3
	for keep := range 11 { // of the eight bytes that are laid then
		p := newPair(t, small(2, 1), 1)
		p.lands("a", 1, 0)
		p.sync()
		p.arm(0)
		p.append("bcd", api.ErrDown)
		p.replayFails(api.ErrDown)
		p.stands(6, 1) // they are laid
		p.append("e", api.ErrDown)
		p.stands(6, 1) // these are not
		p.crash(0, keep)
		switch {
		case keep == 0:
			p.replays(true, "a")
			p.lands("e", 1, 6)
		case keep < 8:
			p.replays(false, "a")
			p.lands("e", 1, 6+keep) // it is laid, but does not count
			p.replays(false, "a")
			p.reads(1, 6+keep, "e")
		default:
			p.replays(true, "a", "bcd") // though it was told that it was not appended
			p.lands("e", 1, 14)
		}
	}
	p := newPair(t, small(2, 1), 1) // at the first Append of a zone
	p.arm(0)
	p.append(text(15), api.ErrDown)
	p.stands(0, 1)
	p.crash()
	p.stands(20, 1)
	p.replays(true)
	p.lands("a", 1, 0)
}

func TestRefusedAppendsNeedNoPower(t *testing.T) { // P9.2
	p := newPair(t, small(3, 1))
	p.raw(0, "x")
	p.arm(0)
	p.append("a", api.ErrNoZone)
	p.append(text(16), api.ErrTooLarge)
	p.grow(1)
	p.append("a", api.ErrOpen)
	p.anew(0)
	p.append(text(15), api.ErrFull)
	if p.d.Down() {
		t.Errorf("the power is gone")
	}
	p.append("a", api.ErrDown)
}

func TestSync(t *testing.T) { // P9.2
	p := newPair(t, small(4, 4))
	p.sync(api.OK) // of nothing, without a zone: a command none the less
	if p.d.Done() != 1 {
		t.Errorf("%d done", p.d.Done())
	}
	p.grow(0)
	p.sync(api.OK)
	p.lands("a", 0, 0)
	p.grow(1)
	p.lands("b", 1, 0)
	p.raw(3, "no record of the log")
	p.sync(api.OK)
	for z, n := range []int{6, 6, 0, 20} { // all that the device has
		if p.d.Flushed(z) != n {
			t.Errorf("zone %d: %d flushed, not %d", z, p.d.Flushed(z), n)
		}
	}
	p.lands("c", 1, 6)
	if p.d.Flushed(1) != 6 {
		t.Errorf("Append flushes")
	}
	p.crash()
	p.replays(true, "a", "b")
	p.lands("c", 1, 6)
	p.sync(api.OK)
	p.crash()
	p.replays(true, "a", "b", "c")
}

func TestSyncWithoutPower(t *testing.T) { // P9.2
	p := newPair(t, small(2, 2), 0)
	p.lands("a", 0, 0)
	p.arm(0)
	p.sync(api.ErrDown) // the power goes at it
	p.sync(api.ErrDown)
	if p.d.Flushed(0) != 0 {
		t.Errorf("%d flushed", p.d.Flushed(0))
	}
	p.crash(2)
	p.replays(false)
	p.anew()
	p.noPower()
	p.sync(api.ErrDown) // without a zone, too
}

func TestRoomAndZonesBehindEachCall(t *testing.T) { // P9.2
	p := newPair(t, small(4, 2))
	p.stands(0)
	p.append("a", api.ErrNoZone)
	p.stands(0)
	p.grow(2)
	p.stands(20, 2)
	p.append(text(16), api.ErrTooLarge)
	p.stands(20, 2)
	p.lands("a", 2, 0)
	p.stands(14, 2)
	p.sync()
	p.stands(14, 2)
	p.append(text(10), api.ErrFull)
	p.stands(14, 2)
	p.lands(text(9), 2, 6)
	p.stands(0, 2)
	p.grow(2, api.ErrState)
	p.stands(0, 2)
	p.grow(1)
	p.stands(20, 2, 1)
	p.lands("", 1, 0)
	p.stands(15, 2, 1)
	p.replays(true, "a", text(9), "")
	p.stands(15, 2, 1)
	p.reads(2, 0, "a")
	p.stands(15, 2, 1)
	p.noPower()
	p.stands(15, 2, 1) // these tell no error
	p.crash(0, 1)
	p.stands(19, 2, 1)
	p.finish(1)
	p.stands(0, 2, 1)
	p.reset(1)
	p.stands(20, 2, 1)
}

// torn: bytes that are no beginning of a frame, as their sum is none.
const torn = "torn"

func TestReplay(t *testing.T) { // P9.3
	p := newPair(t, small(4, 4))
	p.replays(true) // without a zone
	p.grow(3)
	p.replays(true) // with an empty one
	p.lands("", 3, 0)
	p.replays(true, "")
	p.lands("ab", 3, 5)
	p.grow(0) // without a byte, between others
	p.replays(true, "", "ab")
	p.grow(1)
	p.lands("c", 1, 0)
	p.replays(true, "", "ab", "c")
	p.grow(2)
	p.lands(text(15), 2, 0)
	p.replays(true, "", "ab", "c", text(15))
	p.finish(1)
	p.replays(true, "", "ab", "c", text(15))
	p.raw(0, "") // open, without a byte
	p.replays(true, "", "ab", "c", text(15))
	p.reset(3)
	p.replays(true, "c", text(15))
}

func TestReplayOfTornZones(t *testing.T) { // P9.3
	all := []string{"ab", "c", "d", "e"} // two in zone 0, one in zone 1 and one in zone 3; zone 2 has no byte
	upTo := []int{2, 3, 3, 4}
	for z := range 4 {
		p := newPair(t, small(4, 4), 0, 1, 2, 3)
		p.raw(0, framesOf("ab", "c"))
		p.raw(1, frameOf("d"))
		p.raw(3, frameOf("e"))
		p.replays(true, all...)
		p.raw(z, torn)
		p.replays(false, all[:upTo[z]]...)
		for other := 3; other >= 0; other-- { // where several are torn, the first one in the log's order holds
			if other != z {
				p.raw(other, "x")
				p.replays(false, all[:upTo[min(z, other)]]...)
				p.anew(3, 2, 1, 0)
				p.anew(0, 1, 2, 3)
			}
		}
		p.crash() // nothing is left
		p.replays(true)
	}
}

func TestReplayInTheOrderOfTheLog(t *testing.T) { // P9.3
	p := newPair(t, small(3, 3), 2, 0, 1)
	p.raw(0, frameOf("zero"))
	p.raw(1, frameOf("one"))
	p.raw(2, frameOf("two"))
	p.replays(true, "two", "zero", "one")
	p.raw(0, torn) // the second one
	p.replays(false, "two", "zero")
	p.anew(0, 1, 2)
	p.replays(false, "zero")
	p.anew(1, 2)
	p.replays(true, "one", "two")
	p.anew(1, 1) // a log that has one zone twice has its records twice
	p.replays(true, "one", "one")
}

func TestReplayOfAZoneOfTornBytesAlone(t *testing.T) { // P9.3
	for n := 1; n <= 20; n++ {
		p := newPair(t, small(2, 2), 0, 1)
		p.raw(0, strings.Repeat("\x00", n))
		p.raw(1, frameOf("a"))
		p.replays(false)
		p.anew(1, 0)
		p.replays(false, "a")
	}
}

func TestReplayFails(t *testing.T) { // P9.3
	p := newPair(t, small(3, 3), 0, 1)
	p.lands("a", 1, 0)
	p.noPower()
	p.replayFails(api.ErrDown)
	p.anew()
	p.replays(true) // nothing is read
	p.crash(9, 9)
	for _, z := range noZones(3) {
		p.anew(z)
		p.replayFails(api.ErrRange)
		p.anew(1, z)
		p.replayFails(api.ErrRange)
		p.anew(1, z, 0)
		p.replayFails(api.ErrRange)
		p.raw(2, "x")
		p.anew(2, z) // what stands behind torn bytes does not count
		p.replays(false)
		p.anew(z, 2)
		p.replayFails(api.ErrRange)
		p.reset(2)
	}
}

func TestReplayNeedsNoCommand(t *testing.T) { // P9.3
	p := newPair(t, small(2, 2), 0)
	p.lands("a", 0, 0)
	p.arm(0)
	p.replays(true, "a")
	p.reads(0, 0, "a")
	p.readFails(0, 0, 2, api.ErrRange)
	if p.d.Down() || p.d.Done() != 1 {
		t.Errorf("down %t, %d done", p.d.Down(), p.d.Done())
	}
}

func TestReadAt(t *testing.T) { // P9.3
	p := newPair(t, zone.Geometry{Zones: 3, Size: 200, Open: 3}, 1)
	p.raw(0, frameOf("none of the log's"))
	places := map[int]string{}
	for _, r := range []string{"abc", "", text(130), "d", "", ""} {
		_, at, e := p.l.Append([]byte(r))
		if e != api.OK {
			t.Fatalf("Append: %d", e)
		}
		p.m.append(r)
		places[at] = r
	}
	for at, r := range places {
		p.reads(1, at, r)
	}
	all := p.d.Pointer(1)
	for at := -3; at < all+4; at++ {
		for n := -3; n < all+4; n++ {
			p.sameRead("all Appends", 1, at, n)
			b, e := p.l.ReadAt(1, at, n)
			if r, ok := places[at]; ok && n == len(r) {
				if string(b) != r || e != api.OK {
					t.Fatalf("ReadAt(1, %d, %d): %q, %d", at, n, b, e)
				}
			} else if len(b) != 0 || e != api.ErrSum && e != api.ErrRange {
				t.Fatalf("ReadAt(1, %d, %d): %q, %d", at, n, b, e)
			}
		}
	}
	p.reads(0, 0, "none of the log's") // any zone of the device
	p.readFails(2, 0, 0, api.ErrRange)
}

func TestReadAtOfWrongPlaces(t *testing.T) { // P9.3
	p := newPair(t, small(2, 2), 0)
	p.lands("abc", 0, 0)
	p.lands("de", 0, 8)
	p.stands(5, 0)
	for _, c := range []struct {
		z, at, n int
		want     api.Errno
	}{
		{0, 1, 3, api.ErrSum}, {0, 7, 2, api.ErrSum}, {0, 9, 1, api.ErrSum}, {0, 9, 2, api.ErrRange},
		{0, 0, 2, api.ErrSum}, {0, 0, 4, api.ErrSum}, {0, 0, 0, api.ErrSum}, {0, 0, 10, api.ErrSum}, {0, 0, 11, api.ErrRange},
		{0, -1, 3, api.ErrRange}, {0, -1, -1, api.ErrRange}, {0, 15, 0, api.ErrRange}, {0, 11, 0, api.ErrRange}, {0, 10, 0, api.ErrSum},
		{0, 0, -1, api.ErrSum}, {0, 15, -1, api.ErrSum}, {0, 16, -1, api.ErrRange}, // none of a frame's bytes are read
		{1, 0, 0, api.ErrRange}, {1, 0, -1, api.ErrSum}, {1, 1, -1, api.ErrRange},
		{2, 0, 3, api.ErrRange}, {-1, 0, 3, api.ErrRange}, {2, 0, -1, api.ErrRange},
	} {
		p.readFails(c.z, c.at, c.n, c.want)
		p.sameRead("Append", c.z, c.at, c.n)
	}
	for _, far := range []int{math.MaxInt, math.MaxInt - 1, math.MaxInt - 12, math.MaxInt - 13, 1 << 62, 1 << 32, 1<<32 + 3} {
		p.readFails(0, 0, far, api.ErrRange)
		p.readFails(0, far, 3, api.ErrRange)
		p.readFails(0, far, far, api.ErrRange)
		p.readFails(far, 0, 3, api.ErrRange)
		p.readFails(0, -far, 3, api.ErrRange)
		p.readFails(0, 0, -far, api.ErrSum)
	}
	p.readFails(0, 0, math.MinInt, api.ErrSum)
}

func TestReadAtOfFramesThatFillAnother(t *testing.T) { // P9.3
	p := newPair(t, zone.Geometry{Zones: 2, Size: 64, Open: 2}, 0)
	p.lands("", 0, 0)
	p.lands("", 0, 5)
	p.lands("", 0, 10)
	p.readFails(0, 0, 5, api.ErrSum) // two frames are not one
	p.readFails(0, 0, 10, api.ErrSum)
	p.lands(framesOf("in", "side"), 0, 15)
	p.reads(0, 15, framesOf("in", "side"))
	p.reads(0, 20, "in") // whatever stands around it, there is its frame
	p.reads(0, 27, "side")
	p.replays(true, "", "", "", framesOf("in", "side"))
}

func TestReadAtOfSpoiltFrames(t *testing.T) { // P9.3
	f := frameOf("abc")
	for i := range f {
		for by := 1; by < 256; by++ {
			p := newPair(t, small(1, 1), 0)
			p.raw(0, f[:i]+string([]byte{f[i] ^ byte(by)})+f[i+1:])
			p.readFails(0, 0, 3, api.ErrSum)
		}
	}
	p := newPair(t, small(2, 2), 0)
	p.raw(0, sealed("\x83\x00abc")) // a number longer than it needs, with the right sum
	for n := range 5 {              // its nine bytes are as many as a frame of four has
		p.readFails(0, 0, n, api.ErrSum)
	}
	p.readFails(0, 0, 5, api.ErrRange)
	p.raw(1, sealed("\x02abc")) // a sum of one byte more
	p.readFails(1, 0, 2, api.ErrSum)
	p.readFails(1, 0, 3, api.ErrSum)
}

func TestReadAtBehindTornBytes(t *testing.T) { // P9.3: it is read by its place
	p := newPair(t, small(2, 2), 0, 1)
	p.raw(0, torn)
	p.raw(0, frameOf("ab"))
	p.lands("cd", 1, 0)
	p.replays(false)
	p.reads(0, 4, "ab")
	p.reads(1, 0, "cd")
	p.finish(0)
	p.reads(0, 4, "ab")
	p.reset(0)
	p.readFails(0, 4, 2, api.ErrRange)
}

func TestReadAtWithoutPower(t *testing.T) { // P9.3
	p := newPair(t, small(2, 2), 0)
	p.lands("ab", 0, 0)
	p.noPower()
	p.readFails(0, 0, 2, api.ErrDown)
	p.readFails(0, 0, 3, api.ErrDown)
	p.readFails(0, -1, -1, api.ErrDown) // named first by layer 7
	p.readFails(5, 0, 2, api.ErrDown)
	p.readFails(0, 0, math.MaxInt, api.ErrDown)
	p.crash(7)
	p.reads(0, 0, "ab")
}

func TestReadAtWithoutAZone(t *testing.T) { // P9.3: the device's zones are read, not only the log's
	p := newPair(t, small(2, 2))
	p.raw(1, framesOf("ab", "c"))
	p.reads(1, 0, "ab")
	p.reads(1, 7, "c")
	p.readFails(0, 0, 0, api.ErrRange)
}

func TestCrashKeepsEachNumberOfBytes(t *testing.T) { // P9.3
	all := []string{"one", "", text(130), "four", "x"}
	for synced := range len(all) + 1 {
		ends := []int{0}
		for _, r := range all {
			ends = append(ends, ends[len(ends)-1]+len(frameOf(r)))
		}
		for keep := range ends[len(all)] - ends[synced] + 2 {
			p := newPair(t, zone.Geometry{Zones: 1, Size: 200, Open: 1}, 0)
			for i, r := range all {
				if i == synced {
					p.sync()
				}
				p.lands(r, 0, ends[i])
			}
			if synced == len(all) {
				p.sync()
			}
			p.crash(keep)
			left := min(ends[synced]+keep, ends[len(all)])
			n := 0
			for n < len(all) && ends[n+1] <= left {
				n++
			}
			p.replays(left == ends[n], all[:n]...)
		}
	}
}

func TestCrashOfSeveralZones(t *testing.T) { // P9.3
	all := []string{text(15), "a", "bcd", text(12), "", "e"} // zone 2 has the first one, zone 0 two, zone 1 one, zone 3 two
	for i := range 5 * 7 * 5 * 6 {
		keep := []int{[]int{0, 5, 6, 9, 14}[i%5], []int{0, 1, 5, 14, 16, 17, 20}[i/5%7], []int{0, 4, 19, 20, 99}[i/35%5], []int{0, 2, 5, 8, 10, 11}[i/175]}
		p := newPair(t, small(4, 2), 2)
		p.lands(all[0], 2, 0)
		p.grow(0)
		p.lands(all[1], 0, 0)
		p.lands(all[2], 0, 6)
		p.grow(1)
		p.lands(all[3], 1, 0)
		p.finish(1)
		p.grow(3)
		p.lands(all[4], 3, 0)
		p.lands(all[5], 3, 5)
		p.replays(true, all...)
		p.crash(keep...)
		want, whole := []string{}, true
		for _, z := range []struct{ keep, first, second, at int }{{keep[2], 20, 0, 0}, {keep[0], 6, 8, 1}, {keep[1], 17, 0, 3}, {keep[3], 5, 6, 4}} {
			left := min(z.keep, z.first+z.second)
			if whole && left >= z.first {
				want = append(want, all[z.at])
			}
			if whole && z.second > 0 && left == z.first+z.second {
				want = append(want, all[z.at+1])
			}
			whole = whole && (left == 0 || left == z.first || left == z.first+z.second)
		}
		p.replays(whole, want...)
	}
}

func TestWhatIsSyncedStays(t *testing.T) { // P9.2, P9.3
	for synced := range 8 {
		p := newPair(t, small(8, 1))
		all := []string{}
		for i := range 8 {
			p.grow(i)
			all = append(all, text(i))
			p.lands(text(i), i, 0)
			p.finish(i)
			if i == synced {
				p.sync()
			}
		}
		p.crash()
		p.replays(true, all[:synced+1]...)
	}
}

// roomy: a copy of b with spare room, which has these bytes.
func roomy(b, spare string) []byte {
	return append([]byte(b), spare...)[:len(b)]
}

// spoil overwrites a list of bytes, its spare room too.
func spoil(b []byte) {
	b = b[:cap(b)]
	for i := range b {
		b[i] ^= 0xa5
	}
}

func TestWhatIsHandedInIsNotChanged(t *testing.T) { // P9.4
	for _, r := range []string{"", "a", "abc", text(13)} {
		b := roomy(r, "spare room")
		Frame(b)
		d := zone.New(small(1, 1))
		New(d, 0).Append(b)
		New(d).Append(b)
		if string(b[:len(r)+10]) != r+"spare room" {
			t.Errorf("Frame or Append changes what is handed in: %q", b[:len(r)+10])
		}
		f := roomy(framesOf(r, r)+torn, "spare room")
		want := string(f[:cap(f)])
		l, _ := Scan(f)
		for _, record := range l {
			spoil(record)
		}
		if string(f[:cap(f)]) != want {
			t.Errorf("Scan changes what is handed in: %q, not %q", f[:cap(f)], want)
		}
	}
	zones := []int{0, 1, 77, 78}
	l := New(zone.New(small(4, 4)), zones[:2]...)
	if l.Grow(3) != api.OK || l.Grow(2) != api.OK {
		t.Errorf("Grow")
	}
	if !slices.Equal(zones, []int{0, 1, 77, 78}) {
		t.Errorf("New or Grow changes what is handed in: %v", zones)
	}
}

func TestWhatIsHandedInIsNotKept(t *testing.T) { // P9.4
	zones := []int{2, 0, 1}
	d := zone.New(small(4, 4))
	l := New(d, zones...)
	clear(zones)
	if !slices.Equal(l.Zones(), []int{2, 0, 1}) {
		t.Errorf("New keeps what is handed in: %v", l.Zones())
	}
	b := []byte("abc")
	f := Frame(b)
	if _, _, e := l.Append(b); e != api.OK {
		t.Errorf("Append: %d", e)
	}
	spoil(b)
	if string(f) != frameOf("abc") {
		t.Errorf("Frame keeps what is handed in: %q", f)
	}
	if c, e := l.ReadAt(1, 0, 3); string(c) != "abc" || e != api.OK {
		t.Errorf("Append keeps what is handed in: %q, %d", c, e)
	}
	some := []byte(framesOf("one", "", "three"))
	records, _ := Scan(some)
	spoil(some)
	if !slices.Equal(textsOf(records), []string{"one", "", "three"}) {
		t.Errorf("Scan keeps what is handed in: %q", records)
	}
}

// apart: none of these lists shares memory with another one, its spare room neither.
func apart(t *testing.T, call string, lists ...[]byte) {
	t.Helper()
	for i, b := range lists {
		whole := [][]byte{}
		for _, c := range lists {
			whole = append(whole, bytes.Clone(c[:cap(c)]))
		}
		spoil(b)
		for j, c := range lists {
			if i != j && !bytes.Equal(c[:cap(c)], whole[j]) {
				t.Fatalf("%s: lists %d and %d share memory", call, i, j)
			}
		}
	}
}

func TestWhatIsToldIsNewMemory(t *testing.T) { // P9.4
	b := roomy("abc", "spare room")
	apart(t, "Frame", b, Frame(b), Frame(b), Frame(nil), Frame(nil))
	all := roomy(framesOf("one", "", "t", text(140))+torn, "spare room")
	lists := [][]byte{all}
	for range 2 {
		records, _ := Scan(all)
		lists = append(lists, records...)
	}
	apart(t, "Scan", lists...)
	p := newPair(t, zone.Geometry{Zones: 2, Size: 200, Open: 2}, 0, 1)
	p.raw(0, framesOf("one", "", "t", text(140)))
	p.raw(1, framesOf("two", "t")+torn)
	lists = nil
	for range 2 {
		records, _, _ := p.l.Replay()
		lists = append(lists, records...)
		for _, c := range []struct{ z, at, n int }{{0, 0, 3}, {0, 13, 1}, {0, 19, 140}, {1, 0, 3}} {
			r, e := p.l.ReadAt(c.z, c.at, c.n)
			if e != api.OK {
				t.Fatalf("ReadAt(%v): %d", c, e)
			}
			lists = append(lists, r)
		}
	}
	if len(lists) != 20 {
		t.Fatalf("%d lists", len(lists))
	}
	apart(t, "Replay and ReadAt", lists...)
	p.asked("spoiling what was told")
	p.replays(false, "one", "", "t", text(140), "two", "t")
}

func TestRecordsListsAreApart(t *testing.T) { // P9.4
	b := []byte(framesOf("one", "two", "three"))
	x, _ := Scan(b)
	y, _ := Scan(b)
	x = append(x[:1], []byte("new"), []byte("new"), []byte("new"))
	if !slices.Equal(textsOf(y), []string{"one", "two", "three"}) {
		t.Errorf("two answers share memory: %q, %q", x, y)
	}
	p := newPair(t, small(2, 2), 0, 1)
	p.raw(0, framesOf("a", "b"))
	p.raw(1, frameOf("c"))
	l, _, _ := p.l.Replay()
	m, _, _ := p.l.Replay()
	l = append(l[:0], nil, nil, nil, nil)
	if !slices.Equal(textsOf(m), []string{"a", "b", "c"}) {
		t.Errorf("two answers share memory: %q, %q", l, m)
	}
	p.replays(true, "a", "b", "c")
}

func TestZonesAreNewMemory(t *testing.T) { // P9.4
	p := newPair(t, small(6, 6), 5)
	for z := range 5 {
		one, other := p.l.Zones(), p.l.Zones()
		want := slices.Clone(other)
		one = append(one, 77)[:cap(one)]
		for i := range one {
			one[i] = 99
		}
		if !slices.Equal(other, want) {
			t.Fatalf("two answers share memory: %v, not %v", other, want)
		}
		p.asked("spoiling what was told")
		p.grow(z, api.OK)
		if !slices.Equal(other, want) {
			t.Fatalf("what was told follows Grow: %v, not %v", other, want)
		}
	}
	p.stands(20, 5, 0, 1, 2, 3, 4)
}

func TestWhatIsToldStays(t *testing.T) { // P9.4: an answer doesn't follow what is done later
	p := newPair(t, small(2, 2), 0)
	p.lands("ab", 0, 0)
	l, _, _ := p.l.Replay()
	b, _ := p.l.ReadAt(0, 0, 2)
	p.lands("cd", 0, 7)
	p.reset(0)
	p.lands("xy", 0, 0)
	p.crash()
	if !slices.Equal(textsOf(l), []string{"ab"}) || string(b) != "ab" {
		t.Errorf("Replay: %q, ReadAt: %q", l, b)
	}
}

// acts: things that are done to a log and its device of three zones.
func acts() []func(p *pair) {
	return []func(p *pair){
		func(p *pair) { p.append("") },
		func(p *pair) { p.append("abc") },
		func(p *pair) { p.append(text(15)) },
		func(p *pair) { p.append(text(16), api.ErrTooLarge) },
		func(p *pair) { p.grow(0) },
		func(p *pair) { p.grow(1) },
		func(p *pair) { p.grow(3, api.ErrState) },
		func(p *pair) { p.sync() },
		func(p *pair) { p.raw(0, torn) },
		func(p *pair) { p.raw(2, frameOf("d")) },
		func(p *pair) { p.finish(1) },
		func(p *pair) { p.reset(0) },
		func(p *pair) { p.arm(0) },
		func(p *pair) { p.crash(5, 8, 4) },
		func(p *pair) { p.anew(2, 1) },
	}
}

func TestAnyFourActs(t *testing.T) { // P9.2, P9.3
	all := acts()
	for i := range len(all) * len(all) * len(all) * len(all) {
		p := newPair(t, small(3, 2), 1)
		for n := i; n > 0; n /= len(all) {
			all[n%len(all)](p)
		}
	}
}

func TestManyActs(t *testing.T) { // P9.2, P9.3
	for seed := range 150 {
		r := random(uint64(seed))
		zones := 1 + r(8)
		p := newPair(t, zone.Geometry{Zones: zones, Size: 16 + r(200), Open: 1 + r(zones)})
		for range 150 {
			p.someAct(r, zones)
		}
	}
}

// someAct does one thing, with numbers a little past what there is, too.
func (p *pair) someAct(r func(int) int, zones int) {
	p.t.Helper()
	z := r(zones+2) - 1
	switch r(16) {
	case 0, 1, 2, 3, 4, 5:
		p.append(text(r([]int{4, 12, 40, 230}[r(4)])))
	case 6, 7, 8:
		p.grow(z)
	case 9:
		p.sync()
	case 10:
		p.raw(z, text(r(3)))
	case 11:
		p.finish(z)
	case 12:
		p.reset(z)
	case 13:
		p.anew(z, r(zones), r(zones))
	case 14:
		p.arm(r(6) - 1)
	case 15:
		p.crash(r(60), r(60), r(60), r(60), r(60))
	}
	p.sameRead("an act", z, r(30)-2, r(20)-2)
}

func TestNothingPanics(t *testing.T) { // P1
	some := []int{math.MinInt, -1 << 32, -5, -1, 0, 1, 2, 3, 5, 19, 20, 21, 1 << 16, 1 << 32, 1 << 62, math.MaxInt - 9, math.MaxInt}
	for _, z := range some {
		p := newPair(t, small(3, 3), z)
		p.grow(z)
		p.grow(1)
		p.append("abc")
		for _, at := range some {
			p.anew(z, at)
			p.append("abc")
			for _, n := range some {
				p.sameRead("New", z, at, n)
			}
		}
		p.noPower()
		p.append("abc")
		p.sync()
		p.grow(2)
		p.anew(z)
		Size(z)
	}
}

func TestGreatestZone(t *testing.T) { // P9.2, P9.3: at the limit
	g := zone.Geometry{Zones: 2, Size: api.MaxZone, Open: 2}
	d := zone.New(g)
	l := New(d, 0)
	want := []string{}
	for Size(0) <= l.Room() {
		n := min(len(want), l.Room()-Size(0))
		if Size(n) > l.Room() {
			n -= Size(n) - l.Room()
		}
		at := d.Pointer(0)
		if z, where, e := l.Append([]byte(text(n))); z != 0 || where != at || e != api.OK {
			t.Fatalf("Append of %d bytes: %d, %d, %d", n, z, where, e)
		}
		want = append(want, text(n))
	}
	if records, whole, e := l.Replay(); !slices.Equal(textsOf(records), want) || !whole || e != api.OK {
		t.Errorf("Replay: %d records, %t, %d", len(records), whole, e)
	}
	l = New(d, 1)
	if _, _, e := l.Append(make([]byte, api.MaxZone-7+1)); e != api.ErrTooLarge {
		t.Errorf("Append: %d", e)
	}
	if _, _, e := l.Append(make([]byte, api.MaxZone-7)); e != api.OK || l.Room() != 0 {
		t.Errorf("Append: %d, room %d", e, l.Room())
	}
	if b, e := l.ReadAt(1, 0, api.MaxZone-7); len(b) != api.MaxZone-7 || e != api.OK {
		t.Errorf("ReadAt: %d bytes, %d", len(b), e)
	}
}
