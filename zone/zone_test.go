package zone

import (
	"bytes"
	"math"
	"slices"
	"testing"

	"tithebarn/api"
)

// model: a device as the document words it; text[z] are the bytes of a zone.
type model struct {
	g       Geometry
	text    []string
	flushed []int
	state   []int
	done    int
	arm     int // below 0: it is not armed
	down    bool
}

func newModel(g Geometry) *model {
	return &model{g: g, text: make([]string, g.Zones), flushed: make([]int, g.Zones), state: make([]int, g.Zones), arm: -1}
}

// opened counts the zones that are open.
func (m *model) opened() int {
	n := 0
	for _, s := range m.state {
		if s == 1 {
			n++
		}
	}
	return n
}

// whatIf: a thing that the document has an error for.
type whatIf struct {
	e    api.Errno
	when func() bool
}

// first tells the first error whose thing is so; when is asked only if those ahead are not.
func first(all ...whatIf) api.Errno {
	for _, x := range all {
		if x.when() {
			return x.e
		}
	}
	return api.OK
}

func (m *model) ifDown() whatIf { return whatIf{api.ErrDown, func() bool { return m.down }} }

func (m *model) ifNone(z int) whatIf {
	return whatIf{api.ErrRange, func() bool { return z < 0 || z >= m.g.Zones }}
}

func (m *model) ifState(z, s int) whatIf {
	return whatIf{api.ErrState, func() bool { return m.state[z] == s }}
}

// command: is it done? Else the power goes.
func (m *model) command() bool {
	if m.arm == 0 {
		m.down = true
		return false
	}
	m.arm = max(m.arm-1, -1)
	m.done++
	return true
}

func (m *model) append(z int, b string) api.Errno {
	e := first(m.ifDown(), m.ifNone(z), m.ifState(z, 2),
		whatIf{api.ErrOpen, func() bool { return m.state[z] == 0 && m.opened() >= m.g.Open }},
		whatIf{api.ErrFull, func() bool { return len(m.text[z])+len(b) > m.g.Size }})
	if e != api.OK {
		return e
	}
	m.text[z] += b
	m.state[z] = 1
	if len(m.text[z]) == m.g.Size {
		m.state[z] = 2
	}
	if !m.command() {
		return api.ErrDown
	}
	return api.OK
}

func (m *model) read(z, at, n int) (string, api.Errno) {
	e := first(m.ifDown(), m.ifNone(z), whatIf{api.ErrRange, func() bool {
		return at < 0 || n < 0 || at > api.MaxZone || n > api.MaxZone || at+n > len(m.text[z])
	}})
	if e != api.OK {
		return "", e
	}
	return m.text[z][at:][:n], api.OK
}

func (m *model) reset(z int) api.Errno {
	if e := first(m.ifDown(), m.ifNone(z)); e != api.OK {
		return e
	}
	if !m.command() {
		return api.ErrDown
	}
	m.text[z], m.flushed[z], m.state[z] = "", 0, 0
	return api.OK
}

func (m *model) finish(z int) api.Errno {
	if e := first(m.ifDown(), m.ifNone(z), m.ifState(z, 0)); e != api.OK {
		return e
	}
	if !m.command() {
		return api.ErrDown
	}
	m.state[z] = 2
	return api.OK
}

func (m *model) flush() api.Errno {
	if m.down || !m.command() {
		return api.ErrDown
	}
	for z := range m.text {
		m.flushed[z] = len(m.text[z])
	}
	return api.OK
}

func (m *model) room(z int) int {
	if m.state[z] == 2 {
		return 0
	}
	return m.g.Size - len(m.text[z])
}

func (m *model) crash(keep []int) {
	for z := range m.text {
		left := m.flushed[z]
		for n := 0; z < len(keep) && n < keep[z] && left < len(m.text[z]); n++ {
			left++
		}
		m.text[z], m.flushed[z] = m.text[z][:left], left
		switch {
		case left == 0:
			m.state[z] = 0
		case m.state[z] == 2 || left == m.g.Size:
			m.state[z] = 2
		default:
			m.state[z] = 1
		}
	}
	m.arm, m.down = -1, false
}

// pair: a device and its model, to both of which the same is done; each call is held against the model, and all that can be asked behind it.
type pair struct {
	t *testing.T
	d *Device
	m *model
}

func newPair(t *testing.T, zones, size, open int) *pair {
	t.Helper()
	g := Geometry{zones, size, open}
	d := New(g)
	if d == nil {
		t.Fatalf("New(%v): nil", g)
	}
	p := &pair{t, d, newModel(g)}
	p.asked("New")
	return p
}

// told holds an error against the model's, and, if there is one that is asked for, against that.
func (p *pair) told(call string, e, models api.Errno, want []api.Errno) {
	p.t.Helper()
	if e != models || len(want) > 0 && e != want[0] {
		p.t.Fatalf("%s: %d, not %d %v", call, e, models, want)
	}
	p.asked(call)
}

func (p *pair) append(z int, b string, want ...api.Errno) {
	p.t.Helper()
	p.told("Append", p.d.Append(z, []byte(b)), p.m.append(z, b), want)
}

func (p *pair) reset(z int, want ...api.Errno) {
	p.t.Helper()
	p.told("Reset", p.d.Reset(z), p.m.reset(z), want)
}

func (p *pair) finish(z int, want ...api.Errno) {
	p.t.Helper()
	p.told("Finish", p.d.Finish(z), p.m.finish(z), want)
}

func (p *pair) flush(want ...api.Errno) {
	p.t.Helper()
	p.told("Flush", p.d.Flush(), p.m.flush(), want)
}

func (p *pair) read(z, at, n int, want ...api.Errno) {
	p.t.Helper()
	b, e := p.d.Read(z, at, n)
	text, models := p.m.read(z, at, n)
	if string(b) != text {
		p.t.Fatalf("Read(%d, %d, %d): %q, not %q", z, at, n, b, text)
	}
	p.told("Read", e, models, want)
}

func (p *pair) arm(n int) {
	p.t.Helper()
	p.d.Arm(n)
	p.m.arm = max(n, -1)
	p.asked("Arm")
}

func (p *pair) crash(keep ...int) {
	p.t.Helper()
	p.d.Crash(keep...)
	p.m.crash(keep)
	p.asked("Crash")
}

// stands holds a zone against what is asked for.
func (p *pair) stands(z, state int, text string, flushed int) {
	p.t.Helper()
	if p.d.State(z) != state || p.d.Pointer(z) != len(text) || p.d.Flushed(z) != flushed {
		p.t.Fatalf("zone %d: state %d, %d bytes, %d flushed; not %d, %d, %d", z, p.d.State(z), p.d.Pointer(z), p.d.Flushed(z), state, len(text), flushed)
	}
	if p.d.Down() {
		return
	}
	if b, e := p.d.Read(z, 0, len(text)); e != api.OK || string(b) != text {
		p.t.Fatalf("zone %d: %q, %d; not %q", z, b, e, text)
	}
}

// asked asks all that can be asked, and holds it against the model.
func (p *pair) asked(call string) {
	p.t.Helper()
	d, m := p.d, p.m
	if d.Geometry() != m.g || d.Opened() != m.opened() || d.Done() != m.done || d.Down() != m.down {
		p.t.Fatalf("behind %s: %v, %d open, %d done, down %t; not %v, %d, %d, %t", call, d.Geometry(), d.Opened(), d.Done(), d.Down(), m.g, m.opened(), m.done, m.down)
	}
	for z := range m.text {
		if d.State(z) != m.state[z] || d.Pointer(z) != len(m.text[z]) || d.Flushed(z) != m.flushed[z] || d.Room(z) != m.room(z) {
			p.t.Fatalf("behind %s, zone %d: state %d, %d bytes, %d flushed, room %d; not %d, %d, %d, %d", call, z,
				d.State(z), d.Pointer(z), d.Flushed(z), d.Room(z), m.state[z], len(m.text[z]), m.flushed[z], m.room(z))
		}
		b, e := d.Read(z, 0, len(m.text[z]))
		if text, models := m.read(z, 0, len(m.text[z])); e != models || string(b) != text {
			p.t.Fatalf("behind %s, zone %d: %q, %d; not %q, %d", call, z, b, e, text, models)
		}
	}
	for _, z := range noZones(m.g.Zones) {
		if d.State(z) != -1 || d.Pointer(z) != 0 || d.Flushed(z) != 0 || d.Room(z) != 0 {
			p.t.Fatalf("behind %s, zone %d: state %d, %d bytes, %d flushed, room %d", call, z, d.State(z), d.Pointer(z), d.Flushed(z), d.Room(z))
		}
	}
}

// noZones: numbers of which a device of so many zones has none.
func noZones(zones int) []int {
	return []int{-1, zones, math.MinInt, -zones, zones + 1, math.MaxInt, 1 << 32, -1 << 32}
}

// text: n bytes, which are not the same at each n.
func text(n int) string {
	b := make([]byte, n)
	for i := range b {
		b[i] = byte(n + i*7)
	}
	return string(b)
}

// random: numbers that are the same at each run.
func random(seed uint64) func(n int) int {
	return func(n int) int {
		seed = seed*6364136223846793005 + 1442695040888963407
		return int((seed >> 33) % uint64(n))
	}
}

func TestExamples(t *testing.T) { // P7.1, P7.2, P7.4
	d := New(Geometry{2, 16, 1})
	if e := d.Append(0, []byte("ab")); e != api.OK {
		t.Errorf("Append: %d", e)
	}
	if e := d.Append(1, []byte("x")); e != api.ErrOpen {
		t.Errorf("Append of a second zone: %d", e)
	}
	if e := d.Flush(); e != api.OK {
		t.Errorf("Flush: %d", e)
	}
	if e := d.Append(0, []byte("cd")); e != api.OK {
		t.Errorf("Append: %d", e)
	}
	d.Crash(1)
	if n := d.Pointer(0); n != 3 {
		t.Errorf("Pointer behind the crash: %d", n)
	}
	if b, e := d.Read(0, 0, 3); string(b) != "abc" || e != api.OK {
		t.Errorf("Read behind the crash: %q, %d", b, e)
	}
}

func TestGeometries(t *testing.T) { // P7.1
	for _, c := range []struct {
		zones, size, open int
		right             bool
	}{
		{1, 16, 1, true}, {64, 65536, 64, true}, {64, 65536, 1, true}, {1, 65536, 1, true}, {64, 16, 64, true}, {2, 17, 1, true}, {2, 17, 2, true}, {32, 2048, 8, true},
		{0, 16, 0, false}, {0, 16, 1, false}, {65, 16, 1, false}, {65, 16, 65, false}, {-1, 16, -1, false},
		{1, 15, 1, false}, {64, 65537, 64, false}, {1, 0, 1, false}, {1, -16, 1, false},
		{1, 16, 0, false}, {1, 16, 2, false}, {64, 16, 65, false}, {63, 16, 64, false}, {2, 16, -1, false}, {0, 0, 0, false},
		{math.MaxInt, 16, 1, false}, {1, math.MaxInt, 1, false}, {1, 16, math.MaxInt, false},
		{math.MinInt, 16, 1, false}, {1, math.MinInt, 1, false}, {1, 16, math.MinInt, false},
		{math.MaxInt, math.MaxInt, math.MaxInt, false}, {math.MinInt, math.MinInt, math.MinInt, false},
	} {
		g := Geometry{c.zones, c.size, c.open}
		if g.Check() != c.right {
			t.Errorf("%v.Check: %t", g, !c.right)
		}
		if d := New(g); (d != nil) != c.right {
			t.Errorf("New(%v): %v", g, d)
		}
	}
}

func TestNewDeviceIsEmpty(t *testing.T) { // P7.1, P7.3
	for _, g := range []Geometry{{1, 16, 1}, {2, 16, 1}, {64, 65536, 64}, {3, 17, 2}} {
		p := newPair(t, g.Zones, g.Size, g.Open)
		for z := range g.Zones {
			p.stands(z, 0, "", 0)
			if p.d.Room(z) != g.Size {
				t.Errorf("%v: room %d", g, p.d.Room(z))
			}
		}
		if p.d.Opened() != 0 || p.d.Done() != 0 || p.d.Down() || p.d.Geometry() != g {
			t.Errorf("%v: %d open, %d done, down %t, %v", g, p.d.Opened(), p.d.Done(), p.d.Down(), p.d.Geometry())
		}
	}
}

func TestAppend(t *testing.T) { // P7.1
	p := newPair(t, 3, 16, 2)
	p.append(1, "ab", api.OK)
	p.stands(1, 1, "ab", 0)
	p.append(1, "c\x00\xff", api.OK)
	p.stands(1, 1, "abc\x00\xff", 0)
	p.append(0, "x", api.OK)
	p.stands(0, 1, "x", 0)
	p.stands(1, 1, "abc\x00\xff", 0)
	p.stands(2, 0, "", 0)
	if p.d.Room(1) != 11 || p.d.Room(0) != 15 || p.d.Room(2) != 16 || p.d.Opened() != 2 || p.d.Done() != 3 {
		t.Errorf("room %d, %d, %d; %d open, %d done", p.d.Room(1), p.d.Room(0), p.d.Room(2), p.d.Opened(), p.d.Done())
	}
}

func TestAppendOfNoBytes(t *testing.T) { // P7.1
	p := newPair(t, 3, 16, 2)
	p.append(0, "", api.OK) // it opens an empty zone
	p.stands(0, 1, "", 0)
	p.append(0, "", api.OK) // and leaves an open one so
	p.stands(0, 1, "", 0)
	if e := p.d.Append(0, nil); e != api.OK || p.d.Done() != 3 || p.d.Opened() != 1 || p.d.Room(0) != 16 {
		t.Errorf("Append(nil): %d; %d done, %d open", e, p.d.Done(), p.d.Opened())
	}
	p.m.append(0, "")
	p.append(0, "ab", api.OK)
	p.append(0, "", api.OK)
	p.stands(0, 1, "ab", 0)
	p.append(1, "", api.OK)
	p.append(2, "", api.ErrOpen)
	p.stands(2, 0, "", 0)
	p.append(1, text(16), api.OK)
	p.append(1, "", api.ErrState)
	p.finish(0, api.OK)
	p.append(0, "", api.ErrState)
	p.append(2, "", api.OK)
	p.finish(2, api.OK) // full without a byte
	p.append(2, "", api.ErrState)
	p.append(2, "a", api.ErrState)
}

func TestAppendToTheLastByte(t *testing.T) { // P7.1
	for _, size := range []int{16, 17, 2048, 65535, 65536} {
		p := newPair(t, 2, size, 1)
		p.append(0, text(size+1), api.ErrFull)
		p.stands(0, 0, "", 0)
		p.append(0, text(size-1), api.OK)
		p.stands(0, 1, text(size-1), 0)
		p.append(0, "ab", api.ErrFull)
		p.stands(0, 1, text(size-1), 0)
		p.append(0, "a", api.OK)
		p.stands(0, 2, text(size-1)+"a", 0)
		p.append(0, "b", api.ErrState)
		if p.d.Room(0) != 0 || p.d.Opened() != 0 || p.d.Done() != 2 {
			t.Errorf("room %d, %d open, %d done", p.d.Room(0), p.d.Opened(), p.d.Done())
		}
		p.append(1, text(size), api.OK) // full at once, without having been open
		p.stands(1, 2, text(size), 0)
	}
	p := newPair(t, 1, 16, 1)
	p.append(0, text(1<<20), api.ErrFull)
}

func TestAppendByteByByte(t *testing.T) { // P7.1
	p := newPair(t, 1, 40, 1)
	want := text(40)
	for i := range 40 {
		if i == 39 {
			p.stands(0, 1, want[:39], 0)
		}
		p.append(0, want[i:i+1], api.OK)
	}
	p.stands(0, 2, want, 0)
	if p.d.Done() != 40 {
		t.Errorf("%d done", p.d.Done())
	}
}

func TestAppendWhenManyAreOpen(t *testing.T) { // P7.1
	for open := 1; open <= 4; open++ {
		p := newPair(t, 5, 16, open)
		for z := range open {
			p.append(z, "a", api.OK)
		}
		p.append(4, "b", api.ErrOpen)
		p.append(0, "b", api.OK) // one that is open needs no place
		if p.d.Opened() != open {
			t.Errorf("%d open", p.d.Opened())
		}
		p.finish(0, api.OK) // each of these makes place for one
		p.append(4, "b", api.OK)
		if open < 4 {
			p.append(3, "b", api.ErrOpen)
		}
		p.reset(4, api.OK)
		p.append(4, "b", api.OK)
		p.append(0, "b", api.ErrState)
		p.append(4, text(15), api.OK)
		p.stands(4, 2, "b"+text(15), 0)
		p.reset(0, api.OK)
		p.append(0, "c", api.OK)
		p.crash() // all that is not flushed is gone
		for z := range open {
			p.append(4-z, "d", api.OK)
		}
		p.append(0, "d", api.ErrOpen)
	}
	p := newPair(t, 3, 16, 3)
	for z := range 3 {
		p.append(z, "a", api.OK)
	}
}

func TestErrorsOfAppendInTheirOrder(t *testing.T) { // P7.1
	p := newPair(t, 3, 16, 1)
	p.append(0, text(16), api.OK)
	p.append(1, "a", api.OK)
	much := text(17)
	for _, z := range noZones(3) {
		p.append(z, much, api.ErrRange)
		p.append(z, "", api.ErrRange)
	}
	p.append(0, much, api.ErrState)
	p.append(0, "b", api.ErrState)
	p.append(2, much, api.ErrOpen)
	p.append(1, text(16), api.ErrFull)
	p.finish(1, api.OK)
	p.append(1, text(16), api.ErrState)
	p.append(2, much, api.ErrFull)
	p.arm(0)
	p.append(3, much, api.ErrRange) // what is refused is no command: the power stays
	p.append(0, much, api.ErrState)
	p.append(2, much, api.ErrFull)
	p.append(2, "b", api.ErrDown)
	for z := -1; z <= 3; z++ {
		p.append(z, much, api.ErrDown)
		p.append(z, "", api.ErrDown)
		p.read(z, -1, -1, api.ErrDown)
		p.reset(z, api.ErrDown)
		p.finish(z, api.ErrDown)
	}
	p.flush(api.ErrDown)
}

func TestNoSuchZone(t *testing.T) { // P7.1, P7.2, P7.3
	for _, zones := range []int{1, 2, 64} {
		p := newPair(t, zones, 16, zones)
		for range 2 { // first with empty zones, then with ones that have bytes
			for _, z := range noZones(zones) {
				p.append(z, "ab", api.ErrRange)
				p.append(z, "", api.ErrRange)
				p.read(z, 0, 0, api.ErrRange)
				p.read(z, 0, 1, api.ErrRange)
				p.read(z, -1, -1, api.ErrRange)
				p.reset(z, api.ErrRange)
				p.finish(z, api.ErrRange)
				if p.d.State(z) != -1 || p.d.Pointer(z) != 0 || p.d.Flushed(z) != 0 || p.d.Room(z) != 0 {
					t.Errorf("zone %d of %d: %d, %d, %d, %d", z, zones, p.d.State(z), p.d.Pointer(z), p.d.Flushed(z), p.d.Room(z))
				}
			}
			for z := range zones {
				p.append(z, "ab", api.OK)
			}
			p.flush(api.OK)
		}
	}
}

func TestRead(t *testing.T) { // P7.2
	p := newPair(t, 2, 16, 2)
	p.append(0, "abcdef", api.OK)
	p.append(1, "xyz", api.OK)
	for at := range 9 {
		for n := range 9 {
			p.read(0, at, n)
			p.read(1, at, n)
		}
	}
	if b, e := p.d.Read(0, 2, 3); string(b) != "cde" || e != api.OK {
		t.Errorf("Read: %q, %d", b, e)
	}
	p.read(0, 5, 1, api.OK)
	p.read(0, 6, 0, api.OK)
	p.read(0, 5, 2, api.ErrRange)
	p.read(0, 6, 1, api.ErrRange)
	p.read(0, 7, 0, api.ErrRange)
	p.read(0, 0, 7, api.ErrRange)
	p.read(0, 7, -1, api.ErrRange) // though they are at most 6 together
	p.read(0, 7, -7, api.ErrRange)
	p.read(0, -1, 1, api.ErrRange)
	p.read(0, -1, 0, api.ErrRange)
	p.read(0, 0, -1, api.ErrRange)
	p.read(0, -1, -1, api.ErrRange)
	far := []int{math.MaxInt, math.MaxInt - 1, math.MaxInt - 6, math.MinInt, math.MinInt + 1, math.MinInt + 6, 1 << 62, -1 << 62, 1 << 32, -1 << 32}
	for _, at := range append(far, 0, 1, 6, 7, -1) {
		for _, n := range far {
			p.read(0, at, n, api.ErrRange)
			p.read(0, n, at, api.ErrRange)
		}
	}
	if p.d.Done() != 2 {
		t.Errorf("Read is no command, but %d were done", p.d.Done())
	}
}

func TestReadOfZonesInEachState(t *testing.T) { // P7.2
	p := newPair(t, 4, 16, 2)
	p.append(1, "", api.OK)
	p.append(2, text(16), api.OK)
	p.append(3, "ab", api.OK)
	p.finish(3, api.OK)
	for z := range 2 {
		p.read(z, 0, 0, api.OK)
		p.read(z, 0, 1, api.ErrRange)
		p.read(z, 1, 0, api.ErrRange)
	}
	p.read(2, 0, 16, api.OK)
	p.read(2, 16, 0, api.OK)
	p.read(2, 15, 1, api.OK)
	p.read(2, 16, 1, api.ErrRange)
	p.read(2, 17, 0, api.ErrRange)
	p.read(3, 0, 2, api.OK)
	p.read(3, 0, 3, api.ErrRange) // a full zone has no bytes but those laid
	p.reset(3, api.OK)
	p.read(3, 0, 1, api.ErrRange)
	p.append(3, "c", api.OK)
	p.read(3, 0, 1, api.OK)
	p.read(3, 0, 2, api.ErrRange) // what was ahead of the reset is gone
}

func TestReset(t *testing.T) { // P7.2
	p := newPair(t, 4, 16, 4)
	p.reset(0, api.OK) // an empty one
	p.stands(0, 0, "", 0)
	p.append(0, "", api.OK) // an open one without bytes
	p.append(1, "ab", api.OK)
	p.append(2, text(16), api.OK)
	p.flush(api.OK)
	p.append(1, "cd", api.OK)
	p.append(3, "", api.OK)
	p.finish(3, api.OK) // a full one without bytes
	done := p.d.Done()
	for z := range 4 {
		p.reset(z, api.OK)
		p.stands(z, 0, "", 0)
		if p.d.Room(z) != 16 || p.d.Done() != done+1+z {
			t.Errorf("room %d, %d done", p.d.Room(z), p.d.Done())
		}
		for other := z + 1; other < 4; other++ {
			if p.d.State(other) == 0 {
				t.Errorf("Reset(%d) has zone %d empty", z, other)
			}
		}
	}
	p.append(2, "x", api.OK)
	p.stands(2, 1, "x", 0)
	p.crash(0, 0, 1)
	p.stands(2, 1, "x", 1)
}

func TestFinish(t *testing.T) { // P7.2
	p := newPair(t, 4, 16, 2)
	p.finish(0, api.ErrState) // an empty one
	p.stands(0, 0, "", 0)
	if p.d.Done() != 0 {
		t.Errorf("%d done", p.d.Done())
	}
	p.append(0, "", api.OK)
	p.finish(0, api.OK) // an open one without bytes
	p.stands(0, 2, "", 0)
	p.append(1, "ab", api.OK)
	p.flush(api.OK)
	p.append(1, "c", api.OK)
	p.finish(1, api.OK) // an open one
	p.stands(1, 2, "abc", 2)
	p.append(2, text(16), api.OK)
	for range 2 {
		for z := range 3 {
			p.finish(z, api.OK) // a full one stays full
		}
	}
	p.stands(0, 2, "", 0)
	p.stands(1, 2, "abc", 2)
	p.stands(2, 2, text(16), 0)
	if p.d.Done() != 13 || p.d.Room(0) != 0 || p.d.Room(1) != 0 || p.d.Room(2) != 0 || p.d.Opened() != 0 {
		t.Errorf("%d done, room %d, %d, %d, %d open", p.d.Done(), p.d.Room(0), p.d.Room(1), p.d.Room(2), p.d.Opened())
	}
	p.reset(1, api.OK)
	p.finish(1, api.ErrState)
}

func TestFlush(t *testing.T) { // P7.2
	p := newPair(t, 4, 16, 3)
	p.flush(api.OK) // of nothing
	if p.d.Done() != 1 {
		t.Errorf("Flush of nothing: %d done", p.d.Done())
	}
	p.append(0, "ab", api.OK)
	p.append(1, text(16), api.OK)
	p.append(2, "", api.OK)
	p.append(3, "c", api.OK)
	p.finish(3, api.OK)
	for z := range 4 {
		if p.d.Flushed(z) != 0 {
			t.Errorf("ahead of Flush: %d", p.d.Flushed(z))
		}
	}
	for range 2 {
		p.flush(api.OK)
		p.stands(0, 1, "ab", 2)
		p.stands(1, 2, text(16), 16)
		p.stands(2, 1, "", 0)
		p.stands(3, 2, "c", 1)
	}
	p.append(0, "de", api.OK)
	p.stands(0, 1, "abde", 2)
	p.flush(api.OK)
	p.stands(0, 1, "abde", 4)
	p.reset(0, api.OK)
	p.stands(0, 0, "", 0)
	if p.d.Done() != 11 {
		t.Errorf("%d done", p.d.Done())
	}
}

func TestWhatDoneCounts(t *testing.T) { // P7.3
	p := newPair(t, 3, 16, 1)
	counts := func(call string, want int) {
		t.Helper()
		if n := p.d.Done(); n != want {
			t.Fatalf("behind %s: %d done, not %d", call, n, want)
		}
	}
	p.append(0, "ab", api.OK)
	counts("Append", 1)
	p.append(0, "", api.OK)
	counts("Append of no bytes", 2)
	p.append(3, "a", api.ErrRange)
	p.append(1, "a", api.ErrOpen)
	p.append(0, text(15), api.ErrFull)
	counts("an Append with an error", 2)
	p.read(0, 0, 2, api.OK)
	p.read(0, 0, 3, api.ErrRange)
	counts("Read", 2)
	p.flush(api.OK)
	counts("Flush", 3)
	p.flush(api.OK)
	counts("Flush of nothing", 4)
	p.finish(1, api.ErrState)
	p.finish(3, api.ErrRange)
	counts("a Finish with an error", 4)
	p.finish(0, api.OK)
	counts("Finish", 5)
	p.finish(0, api.OK)
	counts("Finish of a full one", 6)
	p.append(0, "a", api.ErrState)
	counts("an Append to a full one", 6)
	p.reset(0, api.OK)
	counts("Reset", 7)
	p.reset(0, api.OK)
	counts("Reset of an empty one", 8)
	p.reset(3, api.ErrRange)
	p.reset(-1, api.ErrRange)
	counts("a Reset with an error", 8)
	p.arm(0)
	p.arm(5)
	p.crash(1, 2, 3)
	counts("Arm and Crash", 8)
	p.arm(0)
	p.append(0, "abc", api.ErrDown)
	counts("the Append at which the power goes", 8)
	p.reset(0, api.ErrDown)
	counts("a Reset behind that", 8)
	p.crash()
	counts("Crash", 8)
	p.append(0, "abc", api.OK)
	counts("Append behind a crash", 9)
}

func TestArm(t *testing.T) { // P7.4
	for _, n := range []int{0, 1, 2, 5} {
		p := newPair(t, 2, 64, 2)
		p.append(0, "a", api.OK)
		p.arm(n)
		if p.d.Down() {
			t.Error("an armed device is down")
		}
		for range n {
			p.append(0, "b", api.OK)
			p.append(2, "b", api.ErrRange) // no command: it is not counted
			p.finish(1, api.ErrState)
			p.read(0, 0, 1, api.OK)
		}
		p.read(0, 0, 1, api.OK)
		p.append(2, "b", api.ErrRange)
		p.finish(1, api.ErrState)
		p.flush(api.ErrDown)
		if !p.d.Down() || p.d.Done() != 1+n || p.d.Flushed(0) != 0 {
			t.Errorf("Arm(%d): down %t, %d done", n, p.d.Down(), p.d.Done())
		}
	}
}

func TestArmBelowNought(t *testing.T) { // P7.4
	for _, n := range []int{-1, -2, math.MinInt} {
		p := newPair(t, 1, 64, 1)
		p.arm(n)
		for range 5 {
			p.append(0, "a", api.OK)
		}
		p.arm(0)
		p.arm(n)
		for range 5 {
			p.append(0, "a", api.OK)
		}
		p.arm(2)
		p.append(0, "a", api.OK)
		p.arm(n)
		for range 5 {
			p.append(0, "a", api.OK)
		}
		if p.d.Down() || p.d.Done() != 16 {
			t.Errorf("Arm(%d): down %t, %d done", n, p.d.Down(), p.d.Done())
		}
	}
}

func TestArmAnew(t *testing.T) { // P7.4
	p := newPair(t, 1, 64, 1)
	p.arm(1)
	p.append(0, "a", api.OK)
	p.arm(2) // ahead of the command at which it would go
	p.append(0, "b", api.OK)
	p.append(0, "c", api.OK)
	p.append(0, "d", api.ErrDown)
	p.crash(math.MaxInt)
	p.arm(9)
	p.arm(0)
	p.flush(api.ErrDown)
	p.crash()
	p.arm(math.MaxInt)
	for range 9 {
		p.flush(api.OK)
	}
	if p.d.Done() != 12 {
		t.Errorf("%d done", p.d.Done())
	}
}

func TestArmOfADeviceThatIsDown(t *testing.T) { // P7.4: only a crash has the power back
	for _, n := range []int{-1, 0, 3} {
		p := newPair(t, 1, 16, 1)
		p.arm(0)
		p.append(0, "a", api.ErrDown)
		p.arm(n)
		for range 4 {
			p.append(0, "b", api.ErrDown)
			p.flush(api.ErrDown)
			p.read(0, 0, 0, api.ErrDown)
		}
		if !p.d.Down() {
			t.Errorf("Arm(%d): up again", n)
		}
		p.crash(1)
		for range 9 { // not armed any more
			p.append(0, "c", api.OK)
		}
		p.stands(0, 1, "accccccccc", 1)
	}
}

// withoutPower has the power go at a call, and holds all calls behind it against ErrDown.
func withoutPower(t *testing.T, p *pair, call func(want ...api.Errno)) {
	t.Helper()
	done := p.d.Done()
	p.arm(0)
	call(api.ErrDown)
	if !p.d.Down() || p.d.Done() != done {
		t.Fatalf("down %t, %d done, not %d", p.d.Down(), p.d.Done(), done)
	}
	for z := -1; z <= p.m.g.Zones; z++ {
		p.append(z, "q", api.ErrDown)
		p.append(z, "", api.ErrDown)
		p.append(z, text(p.m.g.Size+1), api.ErrDown)
		p.read(z, 0, 0, api.ErrDown)
		p.read(z, 0, 1, api.ErrDown)
		p.read(z, -1, -1, api.ErrDown)
		p.reset(z, api.ErrDown)
		p.finish(z, api.ErrDown)
	}
	p.flush(api.ErrDown)
}

func TestPowerGoesAtAppend(t *testing.T) { // P7.4
	p := newPair(t, 4, 16, 3)
	p.append(0, "ab", api.OK)
	p.flush(api.OK)
	withoutPower(t, p, func(want ...api.Errno) { p.append(0, "cd", want...) })
	p.stands(0, 1, "abcd", 2)
	p.crash(1)
	p.stands(0, 1, "abc", 3)

	withoutPower(t, p, func(want ...api.Errno) { p.append(1, "xyz", want...) }) // an empty zone
	p.stands(1, 1, "xyz", 0)
	if p.d.Opened() != 2 || p.d.Room(1) != 13 {
		t.Errorf("%d open, room %d", p.d.Opened(), p.d.Room(1))
	}
	p.crash(0, 2)
	p.stands(1, 1, "xy", 2)

	withoutPower(t, p, func(want ...api.Errno) { p.append(2, "", want...) }) // no bytes: the zone is open
	p.stands(2, 1, "", 0)
	if p.d.Opened() != 3 {
		t.Errorf("%d open", p.d.Opened())
	}
	p.crash(0, 0, 9)
	p.stands(2, 0, "", 0)

	withoutPower(t, p, func(want ...api.Errno) { p.append(1, "", want...) }) // no bytes to one that has some
	p.stands(1, 1, "xy", 2)
	p.crash()

	withoutPower(t, p, func(want ...api.Errno) { p.append(0, text(13), want...) }) // Size bytes: the zone is full
	p.stands(0, 2, "abc"+text(13), 3)
	if p.d.Opened() != 1 || p.d.Room(0) != 0 {
		t.Errorf("%d open, room %d", p.d.Opened(), p.d.Room(0))
	}
	p.crash(12)
	p.stands(0, 2, "abc"+text(13)[:12], 15) // it was full, and stays so

	withoutPower(t, p, func(want ...api.Errno) { p.append(3, text(16), want...) }) // Size bytes to an empty one
	p.stands(3, 2, text(16), 0)
	p.crash(0, 0, 0, 16)
	p.stands(3, 2, text(16), 16)
}

func TestPowerGoesAtReset(t *testing.T) { // P7.4
	p := newPair(t, 4, 16, 4)
	p.append(1, "ab", api.OK)
	p.append(2, "cd", api.OK)
	p.finish(2, api.OK)
	p.append(3, "", api.OK)
	for z := range 4 {
		state, pointer := p.d.State(z), p.d.Pointer(z)
		withoutPower(t, p, func(want ...api.Errno) { p.reset(z, want...) })
		if p.d.State(z) != state || p.d.Pointer(z) != pointer {
			t.Errorf("Reset(%d) was done", z)
		}
		p.crash(0, 9, 9)
	}
	p.stands(1, 1, "ab", 2)
	p.stands(2, 2, "cd", 2)
	p.reset(2, api.OK)
	p.stands(2, 0, "", 0)
}

func TestPowerGoesAtFinish(t *testing.T) { // P7.4
	p := newPair(t, 3, 16, 3)
	p.append(0, "ab", api.OK)
	withoutPower(t, p, func(want ...api.Errno) { p.finish(0, want...) })
	p.stands(0, 1, "ab", 0)
	p.crash(1)
	p.stands(0, 1, "a", 1)
	p.append(1, "", api.OK)
	withoutPower(t, p, func(want ...api.Errno) { p.finish(1, want...) })
	p.stands(1, 1, "", 0)
	p.crash()
	p.append(2, text(16), api.OK)
	withoutPower(t, p, func(want ...api.Errno) { p.finish(2, want...) })
	p.stands(2, 2, text(16), 0)
	p.crash()
	p.arm(0)
	p.finish(1, api.ErrState) // no command: the power stays
	p.finish(0, api.ErrDown)
}

func TestPowerGoesAtFlush(t *testing.T) { // P7.4
	p := newPair(t, 2, 16, 2)
	withoutPower(t, p, p.flush) // of nothing
	p.crash()
	p.append(0, "ab", api.OK)
	p.flush(api.OK)
	p.append(0, "cd", api.OK)
	p.append(1, "ef", api.OK)
	withoutPower(t, p, p.flush)
	p.stands(0, 1, "abcd", 2)
	p.stands(1, 1, "ef", 0)
	p.crash(0, 1)
	p.stands(0, 1, "ab", 2)
	p.stands(1, 1, "e", 1)
}

func TestWhatIsAskedOfADeviceThatIsDown(t *testing.T) { // P7.3: these tell no error
	p := newPair(t, 2, 16, 2)
	p.append(0, "abc", api.OK)
	p.flush(api.OK)
	p.arm(1)
	p.append(0, "d", api.OK)
	p.append(1, "ef", api.ErrDown)
	d := p.d
	if d.State(0) != 1 || d.State(1) != 1 || d.State(2) != -1 || d.Pointer(0) != 4 || d.Pointer(1) != 2 || d.Flushed(0) != 3 || d.Flushed(1) != 0 {
		t.Errorf("states %d, %d, %d", d.State(0), d.State(1), d.State(2))
	}
	if d.Room(0) != 12 || d.Room(1) != 14 || d.Room(2) != 0 || d.Opened() != 2 || d.Done() != 3 || !d.Down() || d.Geometry() != (Geometry{2, 16, 2}) {
		t.Errorf("room %d, %d, %d; %d open, %d done, down %t", d.Room(0), d.Room(1), d.Room(2), d.Opened(), d.Done(), d.Down())
	}
}

func TestCrashKeeps(t *testing.T) { // P7.4
	for _, c := range []struct {
		keep []int
		want [3]int
	}{
		{nil, [3]int{2, 0, 1}}, {[]int{}, [3]int{2, 0, 1}}, // none of what is not flushed
		{[]int{1}, [3]int{3, 0, 1}}, {[]int{0, 1}, [3]int{2, 1, 1}}, // fewer than there are zones
		{[]int{1, 2, 3}, [3]int{3, 2, 4}}, {[]int{0, 0, 0}, [3]int{2, 0, 1}}, {[]int{3, 4, 4}, [3]int{5, 4, 5}}, // as many
		{[]int{1, 1, 1, 1}, [3]int{3, 1, 2}}, {[]int{0, 0, 0, 9, 9, 9, math.MaxInt, -1}, [3]int{2, 0, 1}}, // more
		{[]int{-1, -1, -1}, [3]int{2, 0, 1}}, {[]int{-2, 1, math.MinInt}, [3]int{2, 1, 1}}, // below 0
		{[]int{4, 5, 5}, [3]int{5, 4, 5}}, {[]int{math.MaxInt, math.MaxInt - 1, 1 << 40}, [3]int{5, 4, 5}}, {[]int{6, 17, 65537}, [3]int{5, 4, 5}}, // too great
	} {
		p := newPair(t, 3, 16, 3)
		p.append(0, "ab", api.OK)
		p.append(2, "x", api.OK)
		p.flush(api.OK)
		p.append(0, "cde", api.OK)
		p.append(1, "fghi", api.OK)
		p.append(2, "yzuv", api.OK)
		p.crash(c.keep...)
		all := [3]string{"abcde", "fghi", "xyzuv"}
		for z, left := range c.want {
			state := 1
			if left == 0 {
				state = 0
			}
			p.stands(z, state, all[z][:left], left)
		}
		p.crash() // all that is left is flushed
		for z, left := range c.want {
			p.stands(z, p.d.State(z), all[z][:left], left)
		}
		p.append(1, "next", api.OK)
		p.stands(1, 1, all[1][:c.want[1]]+"next", c.want[1])
	}
}

func TestCrashOfFlushedBytes(t *testing.T) { // P7.4
	for _, keep := range []int{math.MinInt, -1, 0, 1, 5, math.MaxInt} {
		p := newPair(t, 3, 16, 3)
		p.append(0, "ab", api.OK)
		p.append(1, text(16), api.OK)
		p.append(2, "c", api.OK)
		p.finish(2, api.OK)
		p.flush(api.OK)
		p.crash(keep, keep, keep)
		p.stands(0, 1, "ab", 2)
		p.stands(1, 2, text(16), 16)
		p.stands(2, 2, "c", 1)
	}
}

func TestCrashOfZonesWithoutBytes(t *testing.T) { // P7.4
	for _, keep := range []int{-1, 0, 1, math.MaxInt} {
		p := newPair(t, 4, 16, 2)
		p.append(1, "", api.OK) // open
		p.append(2, "", api.OK)
		p.finish(2, api.OK) // full
		p.append(3, "", api.OK)
		p.flush(api.OK)
		p.crash(keep, keep, keep, keep)
		for z := range 4 {
			p.stands(z, 0, "", 0)
			if p.d.Room(z) != 16 {
				t.Errorf("room %d", p.d.Room(z))
			}
		}
		if p.d.Opened() != 0 {
			t.Errorf("%d open", p.d.Opened())
		}
	}
}

func TestCrashOfFullZones(t *testing.T) { // P7.4
	for kept := range 18 {
		p := newPair(t, 3, 16, 3)
		p.append(0, text(16), api.OK) // full of bytes
		p.append(1, "abc", api.OK)
		p.finish(1, api.OK) // finished
		p.append(2, "de", api.OK)
		p.flush(api.OK)
		p.reset(0, api.OK)
		p.append(0, text(16), api.OK)
		p.reset(1, api.OK)
		p.append(1, "abc", api.OK)
		p.finish(1, api.OK)
		p.append(2, text(14), api.OK) // flushed in part
		p.crash(kept, kept, kept)
		state := 2
		if kept == 0 {
			state = 0
		}
		p.stands(0, state, text(16)[:min(kept, 16)], min(kept, 16))
		p.stands(1, state, "abc"[:min(kept, 3)], min(kept, 3))
		p.stands(2, 2, "de"+text(14)[:min(kept, 14)], 2+min(kept, 14))
		if kept > 0 {
			p.append(0, "", api.ErrState)
			p.append(1, "a", api.ErrState)
		} else {
			p.append(0, text(16), api.OK)
		}
		p.append(2, "a", api.ErrState)
	}
}

func TestCrashOfAnArmedDevice(t *testing.T) { // P7.4
	for _, n := range []int{0, 1, 5} {
		p := newPair(t, 1, 64, 1)
		p.append(0, "ab", api.OK)
		p.arm(n)
		p.crash(1)
		p.stands(0, 1, "a", 1)
		for range 9 {
			p.append(0, "c", api.OK)
		}
		p.flush(api.OK)
		p.reset(0, api.OK)
	}
}

func TestCrashOfADeviceThatIsNeither(t *testing.T) { // P7.4
	p := newPair(t, 2, 16, 2)
	p.crash()
	p.crash(1, 2, 3)
	p.append(0, "ab", api.OK)
	p.flush(api.OK)
	p.append(0, "c", api.OK)
	p.append(1, "d", api.OK)
	p.crash()
	p.stands(0, 1, "ab", 2)
	p.stands(1, 0, "", 0)
	p.append(0, "e", api.OK)
	p.stands(0, 1, "abe", 2) // what the crash lost does not come back
	p.crash(5)
	p.stands(0, 1, "abe", 3)
}

func TestWhatIsHandedInIsNotChanged(t *testing.T) { // P7.5
	d := New(Geometry{2, 64, 2})
	all := []byte("spare ahead|abcd|spare behind")
	copied := bytes.Clone(all)
	for range 3 {
		if e := d.Append(0, all[12:16]); e != api.OK {
			t.Fatalf("Append: %d", e)
		}
	}
	d.Append(2, all[12:16])
	d.Append(1, all[12:12])
	if !bytes.Equal(all, copied) {
		t.Errorf("behind Append: %q", all)
	}
	keep := []int{7, -3, 1 << 40, math.MaxInt, 5, 6}
	kept := slices.Clone(keep)
	d.Crash(keep[:3]...)
	d.Crash(keep[:1]...)
	d.Crash(keep[1:]...)
	if !slices.Equal(keep, kept) {
		t.Errorf("behind Crash: %v", keep)
	}
	if b, _ := d.Read(0, 0, 7); string(b) != "abcdabc" || !bytes.Equal(all, copied) {
		t.Errorf("Read: %q", b)
	}
}

func TestWhatIsHandedInIsNotKept(t *testing.T) { // P7.5
	for _, n := range []int{1, 4, 63, 64} {
		p := newPair(t, 1, 64, 1)
		b := make([]byte, n, 128)
		copy(b, text(n))
		if e := p.d.Append(0, b); e != api.OK {
			t.Fatalf("Append: %d", e)
		}
		p.m.append(0, text(n))
		for i := range b[:cap(b)] {
			b[:cap(b)][i] = 0xee
		}
		p.asked("Append")
		if n < 64 {
			p.append(0, "z", api.OK)
			if b[:cap(b)][n] != 0xee {
				t.Error("Append wrote into the spare room of what was handed in ahead")
			}
		}
	}
	p := newPair(t, 2, 16, 2)
	p.append(0, "abcd", api.OK)
	p.append(1, "efgh", api.OK)
	keep := []int{2, 3}
	p.d.Crash(keep...)
	p.m.crash(keep)
	keep[0], keep[1] = 0, 0
	p.asked("Crash")
	p.append(0, "x", api.OK)
	p.crash()
	p.stands(0, 1, "ab", 2)
	p.stands(1, 1, "efg", 3)
}

func TestReadTellsNewMemory(t *testing.T) { // P7.5
	p := newPair(t, 2, 64, 2)
	p.append(0, text(40), api.OK)
	p.append(1, text(64), api.OK)
	for z := range 2 {
		for _, c := range [][2]int{{0, 1}, {0, 40}, {3, 5}, {39, 1}, {40, 0}, {0, 0}} {
			a, _ := p.d.Read(z, c[0], c[1])
			b, _ := p.d.Read(z, c[0], c[1])
			want := bytes.Clone(b)
			a = a[:cap(a)] // spare room, too
			for i := range a {
				a[i] ^= 0xff
			}
			if !bytes.Equal(b, want) {
				t.Errorf("two answers share memory: %q", b)
			}
			p.asked("a change of what was told")
		}
	}
	a, _ := p.d.Read(0, 0, 40)
	p.append(0, "more", api.OK)
	p.crash(20)
	p.append(0, "other", api.OK)
	p.reset(0, api.OK)
	p.append(0, text(64), api.OK)
	if string(a) != text(40) {
		t.Errorf("what was told has changed: %q", a)
	}
}

func TestDevicesAreOfTheirOwn(t *testing.T) { // P7.1
	p, q := newPair(t, 2, 16, 1), newPair(t, 2, 16, 1)
	p.append(0, "ab", api.OK)
	q.asked("another device's Append")
	q.append(1, "c", api.OK)
	p.asked("another device's Append")
	p.arm(0)
	q.flush(api.OK)
	p.flush(api.ErrDown)
	q.asked("another device's power")
	q.crash()
	p.flush(api.ErrDown)
	g := p.d.Geometry()
	g.Zones, g.Size, g.Open = 9, 9, 9
	p.asked("a change of what Geometry told")
}

// anyCall does one of all calls to both, with numbers that are drawn.
func anyCall(p *pair, r func(n int) int) {
	p.t.Helper()
	g := p.m.g
	z := r(g.Zones+2) - 1
	if r(4) > 0 {
		z = r(g.Zones)
	}
	switch r(12) {
	case 0, 1, 2, 3:
		p.append(z, text(r(g.Size/2)))
	case 4:
		room := 0
		if z >= 0 && z < g.Zones {
			room = p.m.room(z)
		}
		p.append(z, text(max(0, room+r(3)-1)))
	case 5:
		p.read(z, r(g.Size+3)-1, r(g.Size+3)-1)
	case 6:
		p.reset(z)
	case 7:
		p.finish(z)
	case 8:
		p.flush()
	case 9:
		p.append(z, "")
	case 10:
		if r(4) == 0 {
			p.arm(r(8) - 2)
		}
	case 11:
		if !p.m.down && r(5) > 0 {
			return
		}
		var keep []int
		for range r(g.Zones + 2) {
			keep = append(keep, r(2*g.Size)-g.Size/2)
		}
		p.crash(keep...)
	}
}

func TestDevicesAreTheModels(t *testing.T) { // P7.1, P7.2, P7.3, P7.4
	for seed := range uint64(300) {
		r := random(seed)
		zones := 1 + r(6)
		p := newPair(t, zones, 16+r(30), 1+r(zones))
		for range 300 {
			anyCall(p, r)
		}
	}
}

// fewCalls: of all calls those by which two zones of 16 bytes, one of them open at most, come to all their states.
func fewCalls() []func(p *pair) {
	calls := []func(p *pair){
		func(p *pair) { p.flush() },
		func(p *pair) { p.crash() },
		func(p *pair) { p.crash(1, 1) },
		func(p *pair) { p.crash(15, 16) },
		func(p *pair) { p.arm(0) },
		func(p *pair) { p.arm(1) },
	}
	for z := range 2 {
		for _, n := range []int{0, 1, 15, 16} {
			calls = append(calls, func(p *pair) { p.append(z, text(n)) })
		}
		calls = append(calls, func(p *pair) { p.reset(z) }, func(p *pair) { p.finish(z) })
	}
	return calls
}

func TestAllShortWays(t *testing.T) { // P7.1, P7.2, P7.3, P7.4: any four of these calls, one behind the other
	calls := fewCalls()
	of := len(calls)
	for way := range of * of * of * of {
		p := newPair(t, 2, 16, 1)
		for range 4 {
			calls[way%of](p)
			way /= of
		}
	}
}

func TestNoNumberIsTooFar(t *testing.T) { // P1
	far := []int{math.MinInt, math.MinInt + 1, -1 << 32, -1, 0, 1, 2, 15, 16, 17, 1 << 16, 1 << 32, math.MaxInt - 1, math.MaxInt}
	for _, bytesOf := range [][]byte{nil, {}, []byte("a"), make([]byte, 16), make([]byte, 17)} {
		d := New(Geometry{2, 16, 1})
		for _, z := range far {
			d.Append(z, bytesOf)
			d.Finish(z)
			for _, at := range far {
				for _, n := range far {
					if b, e := d.Read(z, at, n); e != api.OK && len(b) > 0 {
						t.Fatalf("Read(%d, %d, %d): %q beside %d", z, at, n, b, e)
					}
				}
			}
			d.State(z)
			d.Pointer(z)
			d.Flushed(z)
			d.Room(z)
			d.Arm(z)
			d.Flush()
			d.Crash(z, z, z)
			d.Crash(far...)
			d.Reset(z)
			Geometry{z, z, z}.Check()
		}
	}
}

func TestGreatestDevice(t *testing.T) { // P7.1, P7.2, P7.4: at the limits
	d := New(Geometry{api.MaxZones, api.MaxZone, api.MaxZones})
	all := []byte(text(api.MaxZone))
	for z := range api.MaxZones {
		if e := d.Append(z, all[:api.MaxZone-1]); e != api.OK {
			t.Fatalf("Append(%d): %d", z, e)
		}
	}
	if d.Opened() != api.MaxZones {
		t.Errorf("%d open", d.Opened())
	}
	d.Flush()
	for z := range api.MaxZones {
		if e := d.Append(z, all[api.MaxZone-1:]); e != api.OK || d.State(z) != 2 {
			t.Fatalf("Append(%d): %d, state %d", z, e, d.State(z))
		}
	}
	d.Crash(1, 0, 1)
	for z, want := range []int{api.MaxZone, api.MaxZone - 1, api.MaxZone, api.MaxZone - 1} {
		b, e := d.Read(z, 0, want)
		if d.Pointer(z) != want || d.State(z) != 2 || e != api.OK || !bytes.Equal(b, all[:want]) {
			t.Errorf("zone %d: %d bytes, state %d", z, d.Pointer(z), d.State(z))
		}
	}
}
