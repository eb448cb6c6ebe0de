package alloc

import (
	"fmt"
	"math"
	"slices"
	"testing"

	"tithebarn/api"
	"tithebarn/zone"
)

// model: a table as the document words it; its own device, on which the same is done, tells what layer 7 answers.
type model struct {
	zones int
	has   map[int][]int // role: the zones that have it, in the order in which they came to it
	d     *zone.Device
}

func newModel(zones int) *model {
	m := &model{zones: zones, has: map[int][]int{}}
	for z := range zones {
		m.has[0] = append(m.has[0], z)
	}
	return m
}

func (m *model) role(z int) int {
	for role, zones := range m.has {
		if slices.Contains(zones, z) {
			return role
		}
	}
	return -1
}

func (m *model) list(role int) []int {
	return slices.Sorted(slices.Values(m.has[role]))
}

// move: the zone loses its role and comes to another one.
func (m *model) move(z, role int) {
	old := m.role(z)
	m.has[old] = slices.DeleteFunc(m.has[old], func(x int) bool { return x == z })
	m.has[role] = append(m.has[role], z)
}

func isUse(role int) bool {
	return slices.Contains([]int{1, 2, 3, 4, 5}, role)
}

func (m *model) take(role int) (int, api.Errno) {
	if !isUse(role) {
		return 0, api.ErrRole
	}
	if len(m.has[0]) == 0 {
		return 0, api.ErrNoZone
	}
	z := slices.Min(m.has[0])
	m.move(z, role)
	return z, api.OK
}

func (m *model) own(z, role int) api.Errno {
	if m.role(z) == -1 {
		return api.ErrRange
	}
	if !isUse(role) || m.role(z) != 0 {
		return api.ErrRole
	}
	m.move(z, role)
	return api.OK
}

func (m *model) release(z int) api.Errno {
	if m.role(z) == -1 {
		return api.ErrRange
	}
	if !isUse(m.role(z)) {
		return api.ErrRole
	}
	m.move(z, 6)
	return api.OK
}

func (m *model) reset() (int, api.Errno) {
	if len(m.has[6]) == 0 {
		return 0, api.ErrNoZone
	}
	z := m.has[6][0]
	if e := m.d.Reset(z); e != api.OK {
		return 0, e
	}
	m.move(z, 0)
	return z, api.OK
}

func (m *model) rebuild() int {
	n := 0
	for _, z := range m.list(0) {
		if s := m.d.State(z); s == 1 || s == 2 {
			m.move(z, 6)
			n++
		}
	}
	return n
}

// pair: a table and its model, and a device for each; the same is done to both. Each call is held against the model, and all that can be asked behind it.
type pair struct {
	t *testing.T
	x *Table
	d *zone.Device
	m *model
}

// newPair: a table of so many zones, with a device of as many.
func newPair(t *testing.T, zones int) *pair {
	t.Helper()
	x := New(zones)
	if x == nil {
		t.Fatalf("New(%d): nil", zones)
	}
	p := &pair{t: t, x: x, m: newModel(zones)}
	p.device(zones)
	p.asked("New")
	return p
}

// device: from now on there is a new one, of so many zones.
func (p *pair) device(zones int) {
	p.t.Helper()
	g := zone.Geometry{Zones: zones, Size: 16, Open: zones}
	p.d, p.m.d = zone.New(g), zone.New(g)
	if p.d == nil {
		p.t.Fatalf("no device of %d zones", zones)
	}
}

// told holds an error against the model's, and, if there is one that is asked for, against that.
func (p *pair) told(call string, e, models api.Errno, want []api.Errno) {
	p.t.Helper()
	if e != models || len(want) > 0 && e != want[0] {
		p.t.Fatalf("%s: %d, not %d %v", call, e, models, want)
	}
	p.asked(call)
}

// take: z is the zone that is asked for; -1, if it is any.
func (p *pair) take(role, z int, want ...api.Errno) {
	p.t.Helper()
	call := fmt.Sprintf("Take(%d)", role)
	got, e := p.x.Take(role)
	m, models := p.m.take(role)
	if got != m || z >= 0 && got != z {
		p.t.Fatalf("%s: zone %d, not %d, %d", call, got, m, z)
	}
	p.told(call, e, models, want)
}

func (p *pair) own(z, role int, want ...api.Errno) {
	p.t.Helper()
	p.told(fmt.Sprintf("Own(%d, %d)", z, role), p.x.Own(z, role), p.m.own(z, role), want)
}

func (p *pair) release(z int, want ...api.Errno) {
	p.t.Helper()
	p.told(fmt.Sprintf("Release(%d)", z), p.x.Release(z), p.m.release(z), want)
}

// reset: z is the zone that is asked for; -1, if it is any.
func (p *pair) reset(z int, want ...api.Errno) {
	p.t.Helper()
	got, e := p.x.Reset(p.d)
	m, models := p.m.reset()
	if got != m || z >= 0 && got != z {
		p.t.Fatalf("Reset: zone %d, not %d, %d", got, m, z)
	}
	p.told("Reset", e, models, want)
}

// rebuild: n is how many are asked for; -1, if it is any number.
func (p *pair) rebuild(n int) {
	p.t.Helper()
	got, m := p.x.Rebuild(p.d), p.m.rebuild()
	if got != m || n >= 0 && got != n {
		p.t.Fatalf("Rebuild: %d, not %d, %d", got, m, n)
	}
	p.asked("Rebuild")
}

// fill: a zone of the device is neither empty nor full.
func (p *pair) fill(z int) {
	p.t.Helper()
	p.both("Append", func(d *zone.Device) api.Errno { return d.Append(z, []byte("x")) })
}

func (p *pair) finish(z int) {
	p.t.Helper()
	p.both("Finish", func(d *zone.Device) api.Errno { return d.Finish(z) })
}

// both does the same to both devices.
func (p *pair) both(what string, do func(*zone.Device) api.Errno) {
	p.t.Helper()
	if e, m := do(p.d), do(p.m.d); e != m {
		p.t.Fatalf("%s of the device: %d, %d", what, e, m)
	}
}

func (p *pair) arm(n int) {
	p.d.Arm(n)
	p.m.d.Arm(n)
}

func (p *pair) crash(keep ...int) {
	p.d.Crash(keep...)
	p.m.d.Crash(keep...)
	p.asked("Crash")
}

// roles holds all zones' roles against what is asked for.
func (p *pair) roles(want ...int) {
	p.t.Helper()
	for z, role := range want {
		if p.x.Role(z) != role {
			p.t.Fatalf("zone %d: role %d, not %d", z, p.x.Role(z), role)
		}
	}
}

func (p *pair) queue(want ...int) {
	p.t.Helper()
	if q := p.x.Queue(); !slices.Equal(q, want) {
		p.t.Fatalf("Queue: %v, not %v", q, want)
	}
}

// asked asks all that can be asked, and holds it against the model.
func (p *pair) asked(call string) {
	p.t.Helper()
	x, m := p.x, p.m
	seen := map[int]int{}
	for role := range 7 {
		list := x.List(role)
		if want := m.list(role); !slices.Equal(list, want) || x.Count(role) != len(want) {
			p.t.Fatalf("behind %s, role %d: %v, count %d; not %v", call, role, list, x.Count(role), want)
		}
		for _, z := range list {
			seen[z]++
			if x.Role(z) != role {
				p.t.Fatalf("behind %s, zone %d: role %d, and among those of %d", call, z, x.Role(z), role)
			}
		}
	}
	for z := range m.zones {
		if seen[z] != 1 { // P8.4
			p.t.Fatalf("behind %s, zone %d: %d roles", call, z, seen[z])
		}
	}
	for _, role := range noRoles {
		if l := x.List(role); len(l) != 0 || x.Count(role) != 0 {
			p.t.Fatalf("behind %s, role %d: %v, count %d", call, role, l, x.Count(role))
		}
	}
	for _, z := range noZones(m.zones) {
		if x.Role(z) != -1 {
			p.t.Fatalf("behind %s, zone %d: role %d", call, z, x.Role(z))
		}
	}
	if q := x.Queue(); !slices.Equal(q, m.has[6]) {
		p.t.Fatalf("behind %s: queue %v, not %v", call, q, m.has[6])
	}
	p.sameDevices(call)
}

// sameDevices: of the table's calls only Reset does something to the device, and just that which the model does.
func (p *pair) sameDevices(call string) {
	p.t.Helper()
	d, m := p.d, p.m.d
	if d.Done() != m.Done() || d.Down() != m.Down() {
		p.t.Fatalf("behind %s: %d commands done, down %t; not %d, %t", call, d.Done(), d.Down(), m.Done(), m.Down())
	}
	for z := range d.Geometry().Zones {
		if d.State(z) != m.State(z) || d.Pointer(z) != m.Pointer(z) {
			p.t.Fatalf("behind %s, zone %d of the device: state %d, %d bytes; not %d, %d", call, z, d.State(z), d.Pointer(z), m.State(z), m.Pointer(z))
		}
	}
}

// noZones: numbers of which a table of so many zones has none.
func noZones(zones int) []int {
	return []int{-1, zones, math.MinInt, -zones, zones + 1, math.MaxInt, 1 << 32, -1 << 32}
}

// noRoles: numbers that are no role.
var noRoles = []int{-1, 7, 8, math.MinInt, math.MaxInt, 1 << 32, 1<<32 + 1, 1<<8 + 1, -6, -2}

// noUses: roles and numbers that no zone can be taken for.
var noUses = append([]int{0, 6}, noRoles...)

// random: numbers that are the same at each run.
func random(seed uint64) func(n int) int {
	return func(n int) int {
		seed = seed*6364136223846793005 + 1442695040888963407
		return int((seed >> 33) % uint64(n))
	}
}

func TestExamples(t *testing.T) { // P8.1, P8.2
	x := New(3)
	d := zone.New(zone.Geometry{Zones: 3, Size: 16, Open: 3})
	taken := func(role, want int, wantE api.Errno) {
		t.Helper()
		if z, e := x.Take(role); z != want || e != wantE {
			t.Errorf("Take(%d): %d, %d; not %d, %d", role, z, e, want, wantE)
		}
	}
	taken(4, 0, api.OK)
	taken(5, 1, api.OK)
	if e := x.Release(0); e != api.OK {
		t.Errorf("Release: %d", e)
	}
	taken(2, 2, api.OK)
	taken(2, 0, api.ErrNoZone)
	if z, e := x.Reset(d); z != 0 || e != api.OK {
		t.Errorf("Reset: %d, %d", z, e)
	}
	taken(2, 0, api.OK)
}

func TestNew(t *testing.T) { // P8.1
	for _, zones := range []int{0, 65, -1, 66, -64, math.MinInt, math.MaxInt, 1<<32 + 1, 1<<8 + 1} {
		if x := New(zones); x != nil {
			t.Errorf("New(%d): %v", zones, x)
		}
	}
	for zones := 1; zones <= 64; zones++ {
		p := newPair(t, zones)
		if p.x.Count(0) != zones || len(p.x.Queue()) != 0 {
			t.Errorf("New(%d): %d free, queue %v", zones, p.x.Count(0), p.x.Queue())
		}
		for z := range zones {
			if p.x.Role(z) != 0 {
				t.Errorf("New(%d): zone %d has role %d", zones, z, p.x.Role(z))
			}
		}
	}
}

func TestTablesAreApart(t *testing.T) { // P8.1
	p, q := newPair(t, 2), newPair(t, 2)
	p.take(4, 0, api.OK)
	q.asked("Take of another table")
	q.take(5, 0, api.OK)
	q.release(0, api.OK)
	p.asked("Release of another table")
	p.roles(4, 0)
	q.roles(6, 0)
}

func TestTake(t *testing.T) { // P8.1
	for role := 1; role <= 5; role++ {
		p := newPair(t, 3)
		p.take(role, 0, api.OK)
		p.roles(role, 0, 0)
		p.take(role, 1, api.OK)
		p.take(6-role, 2, api.OK) // the last one that is free
		p.roles(role, role, 6-role)
		p.take(role, 0, api.ErrNoZone)
	}
	p := newPair(t, 64)
	for z := range 64 {
		p.take(z%5+1, z, api.OK)
	}
	p.take(1, 0, api.ErrNoZone)
}

func TestTakeOfTheLowestOfThoseThatAreFree(t *testing.T) { // P8.1
	p := newPair(t, 6)
	p.own(0, 1, api.OK)
	p.own(2, 3, api.OK)
	p.own(3, 4, api.OK)
	p.take(5, 1, api.OK)
	p.take(2, 4, api.OK)
	p.release(3, api.OK) // what is queued is not free
	p.take(2, 5, api.OK)
	p.take(2, 0, api.ErrNoZone)
	p.release(0, api.OK)
	p.take(2, 0, api.ErrNoZone)
	p.reset(3, api.OK)
	p.reset(0, api.OK)
	p.take(4, 0, api.OK) // the lowest number, though 3 is free since longer
	p.take(4, 3, api.OK)
	p.roles(4, 5, 3, 4, 2, 2)
}

func TestTakeForNoUse(t *testing.T) { // P8.1
	for _, role := range noUses {
		p := newPair(t, 1)
		p.take(role, 0, api.ErrRole)
		p.take(1, 0, api.OK)
		p.take(role, 0, api.ErrRole) // named ahead of ErrNoZone
		p.release(0, api.OK)
		p.take(role, 0, api.ErrRole)
		p.take(5, 0, api.ErrNoZone)
	}
}

func TestOwn(t *testing.T) { // P8.1
	for role := 1; role <= 5; role++ {
		p := newPair(t, 3)
		p.own(2, role, api.OK)
		p.roles(0, 0, role)
		for other := 1; other <= 5; other++ { // it is not free any more
			p.own(2, other, api.ErrRole)
		}
		p.roles(0, 0, role)
		p.own(0, role, api.OK)
		p.own(1, role, api.OK)
		p.roles(role, role, role)
		p.release(1, api.OK)
		p.own(1, role, api.ErrRole) // nor is it when it is queued
		p.queue(1)
		p.reset(1, api.OK)
		p.own(1, role, api.OK)
	}
}

func TestOwnOfNoZoneAndForNoUse(t *testing.T) { // P8.1
	for _, zones := range []int{1, 3, 64} {
		p := newPair(t, zones)
		for _, z := range noZones(zones) {
			for role := 1; role <= 5; role++ {
				p.own(z, role, api.ErrRange)
			}
			for _, role := range noUses {
				p.own(z, role, api.ErrRange) // named ahead of ErrRole
			}
		}
		for _, role := range noUses {
			p.own(zones-1, role, api.ErrRole)
		}
		p.own(zones-1, 5, api.OK)
		for _, role := range noUses {
			p.own(zones-1, role, api.ErrRole)
		}
		p.own(0, 1)
	}
}

func TestRelease(t *testing.T) { // P8.2
	for role := 1; role <= 5; role++ {
		p := newPair(t, 4)
		p.release(0, api.ErrRole) // it is free
		p.own(0, role, api.OK)
		p.own(1, role, api.OK)
		p.own(3, role, api.OK)
		p.release(3, api.OK)
		p.roles(role, role, 0, 6)
		p.release(3, api.ErrRole) // it is queued
		p.queue(3)
		p.release(0, api.OK)
		p.release(1, api.OK)
		p.queue(3, 0, 1) // in the order of the releases, not of their numbers
		p.release(0, api.ErrRole)
		p.release(2, api.ErrRole)
		p.queue(3, 0, 1)
		p.roles(6, 6, 0, 6)
	}
}

func TestReleaseOfNoZone(t *testing.T) { // P8.2
	for _, zones := range []int{1, 3, 64} {
		p := newPair(t, zones)
		for z := range zones {
			p.own(z, 4, api.OK)
		}
		for _, z := range noZones(zones) {
			p.release(z, api.ErrRange)
		}
	}
}

func TestResetWithNoneQueued(t *testing.T) { // P8.2
	p := newPair(t, 2)
	p.fill(0)
	p.reset(0, api.ErrNoZone)
	p.own(0, 4, api.OK)
	p.reset(0, api.ErrNoZone)
	p.release(0, api.OK)
	p.reset(0, api.OK)
	p.reset(0, api.ErrNoZone)
	p.arm(0) // named ahead of layer 7's errors: the power does not go at it
	p.reset(0, api.ErrNoZone)
	if p.d.Down() {
		t.Errorf("the power is gone")
	}
	p.fill(1) // here it goes
	p.reset(0, api.ErrNoZone)
}

func TestResetOfEachState(t *testing.T) { // P8.2
	p := newPair(t, 4)
	p.fill(1)
	p.both("Append", func(d *zone.Device) api.Errno { return d.Append(2, make([]byte, 16)) })
	p.fill(3)
	p.finish(3)
	for z := range 4 {
		p.take(4, z, api.OK)
	}
	for z := 3; z >= 0; z-- {
		p.release(z, api.OK)
	}
	done := p.d.Done()
	for z := 3; z >= 0; z-- {
		p.reset(z, api.OK)
		if p.d.State(z) != 0 || p.d.Pointer(z) != 0 || p.x.Role(z) != 0 {
			t.Errorf("zone %d: state %d, %d bytes, role %d", z, p.d.State(z), p.d.Pointer(z), p.x.Role(z))
		}
	}
	if p.d.Done() != done+4 { // of the empty one, too, it is a command
		t.Errorf("%d commands", p.d.Done()-done)
	}
	p.reset(0, api.ErrNoZone)
}

func TestResetTakesOneAtATime(t *testing.T) { // P8.2
	p := newPair(t, 3)
	for z := range 3 {
		p.fill(z)
		p.take(5, z, api.OK)
	}
	p.release(1, api.OK)
	p.release(0, api.OK)
	p.reset(1, api.OK)
	p.queue(0)
	p.roles(6, 0, 5)
	if p.d.State(0) != 1 || p.d.State(1) != 0 || p.d.State(2) != 1 {
		t.Errorf("states %d, %d, %d", p.d.State(0), p.d.State(1), p.d.State(2))
	}
}

func TestResetWithoutPower(t *testing.T) { // P8.2
	p := newPair(t, 3)
	for z := range 3 {
		p.fill(z)
		p.take(2, z, api.OK)
	}
	p.both("Flush", (*zone.Device).Flush)
	p.release(2, api.OK)
	p.release(0, api.OK)
	p.arm(1)
	p.reset(2, api.OK)
	p.reset(0, api.ErrDown) // the power goes at it
	p.queue(0)
	p.release(1, api.OK)
	p.reset(0, api.ErrDown) // the device is down
	p.queue(0, 1)           // it is still the first
	p.roles(6, 6, 0)
	p.take(3, 2, api.OK) // the table needs no power
	p.rebuild(0)
	p.crash()
	p.queue(0, 1)
	p.reset(0, api.OK)
	p.reset(1, api.OK)
	p.reset(0, api.ErrNoZone)
	p.roles(0, 0, 3)
}

func TestResetOfAZoneThatTheDeviceHasNot(t *testing.T) { // P8.2
	p := newPair(t, 3)
	p.device(2)
	p.fill(0)
	p.own(2, 4, api.OK)
	p.own(0, 4, api.OK)
	p.release(2, api.OK)
	p.release(0, api.OK)
	p.reset(0, api.ErrRange)
	p.reset(0, api.ErrRange) // it stays the first
	p.queue(2, 0)
	p.roles(6, 0, 6)
	p.arm(0)
	p.reset(0, api.ErrRange) // the power does not go at it
	p.fill(1)
	p.reset(0, api.ErrDown) // named first by layer 7
	p.queue(2, 0)
	p.device(3) // another device is as good
	p.reset(2, api.OK)
	p.reset(0, api.OK)
	p.queue()
}

func TestResetOnSeveralDevices(t *testing.T) { // P8.2
	p := newPair(t, 2)
	p.take(4, 0, api.OK)
	p.take(4, 1, api.OK)
	p.release(0, api.OK)
	p.release(1, api.OK)
	p.reset(0, api.OK)
	first := p.d
	p.device(2)
	p.fill(1)
	p.reset(1, api.OK)
	if first.Done() != 1 || p.d.Done() != 2 || p.d.State(1) != 0 {
		t.Errorf("%d, %d commands, state %d", first.Done(), p.d.Done(), p.d.State(1))
	}
}

func TestRoleBehindEachCall(t *testing.T) { // P8.3
	p := newPair(t, 3)
	p.roles(0, 0, 0)
	p.take(1, 0, api.OK)
	p.roles(1, 0, 0)
	p.own(2, 5, api.OK)
	p.roles(1, 0, 5)
	p.release(0, api.OK)
	p.roles(6, 0, 5)
	p.fill(1)
	p.rebuild(1)
	p.roles(6, 6, 5)
	p.reset(0, api.OK)
	p.roles(0, 6, 5)
	p.take(3, 0, api.OK)
	p.roles(3, 6, 5)
	for _, z := range noZones(3) {
		if p.x.Role(z) != -1 {
			t.Errorf("zone %d: role %d", z, p.x.Role(z))
		}
	}
}

func TestCountAndList(t *testing.T) { // P8.3
	p := newPair(t, 16)
	for i, z := range []int{15, 3, 9, 1, 12, 7, 4, 14, 2, 6, 11} { // they come in no order
		p.own(z, i%5+1, api.OK)
	}
	for _, z := range []int{12, 3, 6} {
		p.release(z, api.OK)
	}
	for role, want := range [][]int{{0, 5, 8, 10, 13}, {7, 11, 15}, {4}, {9, 14}, {1, 2}, {}, {3, 6, 12}} {
		if l := p.x.List(role); !slices.Equal(l, want) || p.x.Count(role) != len(want) {
			t.Errorf("role %d: %v, count %d; not %v", role, l, p.x.Count(role), want)
		}
	}
	p.queue(12, 3, 6)
	for _, role := range noRoles {
		if l := p.x.List(role); len(l) != 0 || p.x.Count(role) != 0 {
			t.Errorf("role %d: %v, count %d", role, l, p.x.Count(role))
		}
	}
}

func TestCountAndListOfAllZones(t *testing.T) { // P8.3
	for role := 1; role <= 5; role++ {
		p := newPair(t, 64)
		for z := range 64 {
			p.take(role, z, api.OK)
		}
		if p.x.Count(role) != 64 || p.x.Count(0) != 0 || len(p.x.List(role)) != 64 || len(p.x.List(0)) != 0 {
			t.Errorf("role %d: %d, %v", role, p.x.Count(role), p.x.List(role))
		}
		for z := range 64 {
			p.release(63-z, api.OK)
		}
		if p.x.Count(6) != 64 || p.x.Count(role) != 0 || len(p.x.Queue()) != 64 {
			t.Errorf("queued: %d, %v", p.x.Count(6), p.x.Queue())
		}
	}
}

func TestOrderOfTheQueue(t *testing.T) { // P8.2, P8.3
	p := newPair(t, 6)
	p.queue()
	p.own(4, 4, api.OK)
	p.own(1, 4, api.OK)
	p.own(5, 4, api.OK)
	p.release(4, api.OK)
	p.release(1, api.OK)
	p.fill(3)
	p.fill(0)
	p.rebuild(2)
	p.queue(4, 1, 0, 3)
	p.release(5, api.OK)
	p.queue(4, 1, 0, 3, 5)
	p.reset(4, api.OK)
	p.reset(1, api.OK)
	p.queue(0, 3, 5)
	p.take(2, 1, api.OK)
	p.release(1, api.OK) // it was ahead before, now it is behind the others
	p.fill(4)
	p.rebuild(1)
	p.queue(0, 3, 5, 1, 4)
	for _, z := range []int{0, 3, 5, 1, 4} {
		p.reset(z, api.OK)
	}
	p.queue()
}

func TestQueueGoesRound(t *testing.T) { // P8.2: what was reset may be queued again and again
	p := newPair(t, 3)
	p.take(4, 0, api.OK)
	p.release(0, api.OK)
	p.take(4, 1, api.OK)
	for range 300 {
		p.release(p.x.List(4)[0], api.OK)
		first := p.x.Queue()[0]
		p.reset(first, api.OK)
		p.take(4, -1, api.OK)
	}
}

func TestRebuild(t *testing.T) { // P8.3
	p := newPair(t, 5)
	p.rebuild(0) // the device is empty
	p.queue()
	p.fill(3)
	p.rebuild(1)
	p.queue(3)
	p.rebuild(0) // twice in a row: what is queued is not free any more
	p.queue(3)
	p.fill(4)
	p.fill(0)
	p.fill(2)
	p.finish(2)
	p.rebuild(3) // open and full ones
	p.queue(3, 0, 2, 4)
	p.roles(6, 0, 6, 6, 6)
	p.rebuild(0)
	p.queue(3, 0, 2, 4)
	for _, z := range []int{3, 0, 2, 4} {
		p.reset(z, api.OK)
	}
	p.rebuild(0) // they are empty now
	p.roles(0, 0, 0, 0, 0)
}

func TestRebuildLeavesOwnedAndQueuedZones(t *testing.T) { // P8.3
	p := newPair(t, 7)
	for z := range 7 {
		p.fill(z)
	}
	for role := 1; role <= 5; role++ {
		p.own(role, role, api.OK)
	}
	p.release(3, api.OK)
	p.rebuild(2)
	p.roles(6, 1, 2, 6, 4, 5, 6)
	p.queue(3, 0, 6)
}

func TestRebuildOfOpenZonesWithoutBytes(t *testing.T) { // P8.3: empty is a state
	p := newPair(t, 3)
	p.both("Append", func(d *zone.Device) api.Errno { return d.Append(1, nil) })
	p.both("Append", func(d *zone.Device) api.Errno { return d.Append(2, nil) })
	p.finish(2)
	p.rebuild(2)
	p.queue(1, 2)
}

func TestRebuildBehindACrash(t *testing.T) { // P8.3
	p := newPair(t, 5)
	p.fill(0)
	p.fill(1)
	p.both("Flush", (*zone.Device).Flush)
	p.fill(2)
	p.fill(3)
	p.fill(4)
	p.finish(4)
	p.own(0, 1, api.OK)
	p.crash(0, 0, 0, 1) // 2 and 4 lose what they had
	p.rebuild(2)
	p.queue(1, 3)
	p.roles(1, 6, 0, 6, 0)
	p.crash()
	p.rebuild(0)
	p.fill(2)
	p.crash()
	p.rebuild(0)
	p.queue(1, 3)
}

func TestRebuildWithoutPower(t *testing.T) { // P8.3: it needs no command
	p := newPair(t, 3)
	p.fill(1)
	p.arm(0)
	p.rebuild(1)
	if p.d.Down() || p.d.Done() != 1 {
		t.Errorf("down %t, %d commands", p.d.Down(), p.d.Done())
	}
	p.both("Append", func(d *zone.Device) api.Errno { return d.Append(2, []byte("x")) }) // the power goes; x is laid
	p.rebuild(1)
	p.queue(1, 2)
	p.reset(0, api.ErrDown)
}

func TestRebuildOnADeviceOfAnotherSize(t *testing.T) { // P8.3
	p := newPair(t, 3)
	p.device(1)
	p.rebuild(0) // what the device has not is not there
	p.fill(0)
	p.rebuild(1)
	p.queue(0)
	p.device(5)
	for z := range 5 {
		p.fill(z)
	}
	p.rebuild(2) // what the table has not neither
	p.queue(0, 1, 2)
	p.roles(6, 6, 6)
}

func TestRebuildOfAllZones(t *testing.T) { // P8.3
	p := newPair(t, 64)
	for z := range 64 {
		p.fill(63 - z)
	}
	p.rebuild(64)
	if q := p.x.Queue(); !slices.Equal(q, p.x.List(6)) || len(q) != 64 {
		t.Errorf("queue %v", q)
	}
	p.take(1, 0, api.ErrNoZone)
	for z := range 64 {
		p.reset(z, api.OK)
	}
}

// spoil writes over a list, its spare room too.
func spoil(l []int) {
	l = l[:cap(l)]
	for i := range l {
		l[i] = -99
	}
}

func TestWhatIsToldIsNewMemory(t *testing.T) { // P8.3, the rule on memory
	p := newPair(t, 12)
	for z := range 12 {
		p.fill(z)
	}
	for z := range 8 {
		p.take(z%5+1, z, api.OK)
	}
	for z := range 5 {
		p.release(z, api.OK)
		p.spoilAll("Release")
	}
	p.rebuild(4)
	p.spoilAll("Rebuild")
	for z := range 4 {
		p.reset(z, api.OK)
		p.spoilAll("Reset")
		p.take(z+1, z, api.OK)
		p.spoilAll("Take")
	}
	p.release(2, api.OK)
	p.spoilAll("Release")
	for _, z := range p.x.Queue() {
		p.reset(z, api.OK)
		p.spoilAll("Reset")
	}
}

// spoilAll spoils one answer of each call while others of it are held: these and those asked for later stay as they are.
func (p *pair) spoilAll(call string) {
	p.t.Helper()
	ask := func() [][]int {
		told := [][]int{p.x.Queue()}
		for role := range 7 {
			told = append(told, p.x.List(role))
		}
		return told
	}
	held, other := ask(), ask()
	want := fmt.Sprint(held)
	for _, l := range other {
		spoil(l)
	}
	if got := fmt.Sprint(held); got != want {
		p.t.Fatalf("behind %s: two answers share memory: %s, not %s", call, got, want)
	}
	p.asked("spoiling behind " + call)
	for i := range held { // no two lists of different calls either
		rest := fmt.Sprint(held[i+1:])
		spoil(held[i])
		if got := fmt.Sprint(held[i+1:]); got != rest {
			p.t.Fatalf("behind %s: lists share memory: %s, not %s", call, got, rest)
		}
	}
	p.asked("spoiling behind " + call)
}

func TestWhatIsToldStays(t *testing.T) { // P8.3: an answer doesn't follow what is done later
	p := newPair(t, 4)
	for z := range 4 {
		p.fill(z)
	}
	p.own(3, 4, api.OK)
	p.own(1, 4, api.OK)
	p.release(3, api.OK)
	p.release(1, api.OK)
	q, free := p.x.Queue(), p.x.List(0)
	q, free = append(q, 77), append(free, 78)
	p.rebuild(2)
	p.reset(3, api.OK)
	p.take(5, 3, api.OK)
	p.release(3, api.OK)
	p.queue(1, 0, 2, 3)
	if !slices.Equal(q, []int{3, 1, 77}) || !slices.Equal(free, []int{0, 2, 78}) {
		t.Errorf("queue %v, free %v", q, free)
	}
}

// acts: things that are done to a table of three zones and its device.
func acts() []func(p *pair) {
	return []func(p *pair){
		func(p *pair) { p.take(1, -1) },
		func(p *pair) { p.take(5, -1) },
		func(p *pair) { p.take(6, 0, api.ErrRole) },
		func(p *pair) { p.own(0, 2) },
		func(p *pair) { p.own(1, 3) },
		func(p *pair) { p.own(2, 0, api.ErrRole) },
		func(p *pair) { p.release(0) },
		func(p *pair) { p.release(1) },
		func(p *pair) { p.release(2) },
		func(p *pair) { p.reset(-1) },
		func(p *pair) { p.rebuild(-1) },
		func(p *pair) { p.fill(0) },
		func(p *pair) { p.fill(1) },
		func(p *pair) { p.finish(1) },
		func(p *pair) { p.arm(0) },
		func(p *pair) { p.crash(0, 1) },
	}
}

func TestAnyFourActs(t *testing.T) { // P8.1 to P8.4
	all := acts()
	for i := range len(all) * len(all) * len(all) * len(all) {
		p := &pair{t: t, x: New(3), m: newModel(3)}
		p.device(3)
		for n := i; n > 0; n /= len(all) {
			all[n%len(all)](p)
		}
	}
}

func TestManyActs(t *testing.T) { // P8.1 to P8.4
	for seed := range 200 {
		pick := random(uint64(seed))
		zones := 1 + pick(64)
		p := newPair(t, zones)
		if pick(4) == 0 { // fewer zones, or more
			p.device(1 + pick(64))
		}
		for range 300 {
			p.someAct(pick, zones)
		}
	}
}

// someAct does one thing, with numbers a little past what there is, too.
func (p *pair) someAct(pick func(int) int, zones int) {
	p.t.Helper()
	z := pick(zones+4) - 2
	switch pick(14) {
	case 0, 1, 2:
		p.take(pick(8)-1, -1)
	case 3, 4:
		p.own(z, pick(8)-1)
	case 5, 6, 7:
		p.release(z)
	case 8, 9:
		p.reset(-1)
	case 10:
		p.rebuild(-1)
	case 11, 12:
		p.fill(z)
	case 13:
		if pick(4) == 0 {
			p.arm(pick(6) - 1)
			return
		}
		p.crash(pick(2), pick(2), pick(2))
	}
}

func TestNothingPanics(t *testing.T) { // P1
	some := append(noZones(3), append([]int{0, 1, 2}, noUses...)...)
	p := newPair(t, 3)
	for _, a := range some {
		for _, b := range some {
			p.own(a, b)
		}
		p.take(a, -1)
		p.release(a)
		p.reset(-1)
		p.rebuild(-1)
		p.x.List(a)
		p.x.Count(a)
		p.x.Role(a)
	}
}
