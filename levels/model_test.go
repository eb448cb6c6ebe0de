package levels

import (
	"fmt"
	"math"
	"reflect"
	"slices"
	"strings"
	"testing"

	"tithebarn/api"
	"tithebarn/ikey"
)

// The model: the chapter's words, and those of the chapter on keys, said anew.

// chance: numbers that look like any, the same in each run.
type chance struct{ state uint64 }

func (c *chance) below(n int) int {
	c.state = c.state*6364136223846793005 + 1442695040888963407
	return int(c.state>>33) % n
}

func key(user string, seq, kind int) ikey.Key {
	return ikey.Key{User: user, Seq: seq, Kind: kind}
}

// meta: a table in a zone, with users' keys from small to large.
func meta(zone int, small, large string, refs ...Ref) Meta {
	return Meta{Zone: zone, Len: 2, Small: key(small, 9, 1), Large: key(large, 2, 1), Refs: refs}
}

// version: these are the tables of levels 0, 1 and so on.
func version(levels ...[]Meta) Version {
	var v Version
	copy(v.Levels[:], levels)
	return v
}

func metas(l ...Meta) []Meta { return l }

// edit: drop these zones, add these places.
func edit(drop []int, add ...Place) Edit { return Edit{Add: add, Drop: drop} }

func place(level int, m Meta) Place { return Place{Level: level, Meta: m} }

func modelRightKey(k ikey.Key) bool {
	return len(k.User) >= 1 && len(k.User) <= 64 && k.Seq >= 0 && k.Seq <= 1<<40 && (k.Kind == 1 || k.Kind == 2 || k.Kind == 3)
}

// modelKey: the bytes of a right key.
func modelKey(k ikey.Key) string {
	b := []byte(strings.ReplaceAll(k.User, "\x00", "\x00\xff") + "\x00\x01")
	less := 1<<40 - k.Seq
	for _, part := range []int{1 << 40, 1 << 32, 1 << 24, 1 << 16, 1 << 8, 1} {
		b = append(b, byte(less/part))
	}
	return string(append(b, byte(255-k.Kind)))
}

func modelMeta(m Meta) bool {
	if m.Zone < 0 || m.Zone > 63 || m.Len < 1 || m.Len > 65536 || !modelRightKey(m.Small) || !modelRightKey(m.Large) {
		return false
	}
	last := -1
	for _, r := range m.Refs {
		if r.Zone <= last || r.Zone > 63 || r.Bytes < 1 || r.Bytes > 1073741824 {
			return false
		}
		last = r.Zone
	}
	return modelKey(m.Small) <= modelKey(m.Large)
}

// modelVersion: each two tables are held against each other.
func modelVersion(v Version) bool {
	var all []Place
	for level := range v.Levels {
		for _, m := range v.Levels[level] {
			all = append(all, Place{level, m})
		}
	}
	for i, p := range all {
		if !modelMeta(p.Meta) {
			return false
		}
		for _, q := range all[:i] {
			if q.Meta.Zone == p.Meta.Zone {
				return false
			}
			if q.Level == p.Level && p.Level >= 1 && q.Meta.Large.User >= p.Meta.Small.User {
				return false
			}
		}
	}
	return true
}

// slot: a table, or the place where one was that is dropped.
type slot struct {
	meta Meta
	gone bool
}

// modelApply: what is dropped leaves its place behind, till all is done.
func modelApply(v Version, e Edit) (Version, api.Errno) {
	slots := map[int][]slot{}
	for level, l := range v.Levels {
		for _, m := range l {
			slots[level] = append(slots[level], slot{meta: m})
		}
	}
	mark, marked := 0, false
	for _, z := range e.Drop {
		level, i := modelSlot(slots, z)
		if i < 0 {
			return Version{}, api.ErrVersion
		}
		slots[level][i].gone = true
		if level == 0 && !marked {
			mark, marked = i, true
		}
	}
	for _, p := range e.Add {
		switch {
		case p.Level < 0 || p.Level > 3:
			return Version{}, api.ErrVersion
		case p.Level == 0:
			slots[0] = slices.Insert(slots[0], mark, slot{meta: p.Meta})
		default:
			slots[p.Level] = append(slots[p.Level], slot{meta: p.Meta})
			slices.SortStableFunc(slots[p.Level], func(a, b slot) int { return strings.Compare(a.meta.Small.User, b.meta.Small.User) })
		}
	}
	next := modelLeft(slots)
	if !modelVersion(next) {
		return Version{}, api.ErrVersion
	}
	return next, api.OK
}

// modelSlot: the level and the place of the table with this zone; below 0, if there is none.
func modelSlot(slots map[int][]slot, zone int) (level, i int) {
	for level := range 4 {
		for i, s := range slots[level] {
			if !s.gone && s.meta.Zone == zone {
				return level, i
			}
		}
	}
	return 0, -1
}

func modelLeft(slots map[int][]slot) Version {
	var v Version
	for level := range v.Levels {
		for _, s := range slots[level] {
			if !s.gone {
				v.Levels[level] = append(v.Levels[level], s.meta)
			}
		}
	}
	return v
}

func modelHas(v Version, zone int) (int, bool) {
	for level := range v.Levels {
		for _, m := range v.Levels[level] {
			if m.Zone == zone {
				return level, true
			}
		}
	}
	return 0, false
}

func modelCovers(m Meta, user string) bool {
	return !(user < m.Small.User || user > m.Large.User)
}

func modelAt(v Version, level int, user string) []Meta {
	var l []Meta
	if level >= 0 && level <= 3 {
		for _, m := range v.Levels[level] {
			if modelCovers(m, user) {
				l = append(l, m)
			}
		}
	}
	return l
}

// modelOver: if there is a user's key in both, then one of the four ends is.
func modelOver(v Version, level int, small, large string) []Meta {
	var l []Meta
	if level < 0 || level > 3 {
		return nil
	}
	for _, m := range v.Levels[level] {
		for _, user := range []string{small, large, m.Small.User, m.Large.User} {
			if modelCovers(m, user) && user >= small && user <= large {
				l = append(l, m)
				break
			}
		}
	}
	return l
}

func modelTables(v Version) []Meta {
	return slices.Concat(v.Levels[0], v.Levels[1], v.Levels[2], v.Levels[3])
}

func modelLive(v Version, zone int) int {
	sum := 0
	for _, m := range modelTables(v) {
		for _, r := range m.Refs {
			if r.Zone == zone {
				sum += r.Bytes
			}
		}
	}
	return sum
}

func modelDeeper(v Version, level int, user string) bool {
	for below := 3; below >= 0 && below > level; below-- {
		if len(modelAt(v, below, user)) > 0 {
			return true
		}
	}
	return false
}

// modelSame: nil and empty lists are one.
func modelSame(a, b []Meta) bool {
	if len(a) != len(b) {
		return false
	}
	for i, m := range a {
		o := b[i]
		if m.Zone != o.Zone || m.Len != o.Len || len(m.Refs) != len(o.Refs) {
			return false
		}
		if !reflect.DeepEqual([]ikey.Key{m.Small, m.Large}, []ikey.Key{o.Small, o.Large}) {
			return false
		}
		for j := range m.Refs {
			if m.Refs[j] != o.Refs[j] {
				return false
			}
		}
	}
	return true
}

func modelEqual(v, o Version) bool {
	for level := range v.Levels {
		if !modelSame(v.Levels[level], o.Levels[level]) {
			return false
		}
	}
	return true
}

// farNumbers: the least and the greatest ints, and what wraps round in 32 bits.
func farNumbers() []int {
	return []int{math.MinInt, math.MinInt + 1, -1 << 32, -1, 1 << 32, 1<<32 + 1, math.MaxInt - 1, math.MaxInt}
}

// samples: right versions, each with what it is.
func samples() map[string]Version {
	return map[string]Version{
		"empty":                  version(),
		"empty levels":           version(metas(), metas(), metas(), metas()),
		"the chapter's":          version(nil, metas(meta(1, "a", "c"), meta(2, "f", "h"))),
		"one in level 0":         version(metas(meta(5, "b", "d", Ref{7, 5}))),
		"one in the last level":  version(nil, nil, nil, metas(meta(0, "b", "d", Ref{0, 1}, Ref{63, 1 << 30}))),
		"overlapping in level 0": version(metas(meta(4, "b", "b", Ref{7, 6}, Ref{8, 1}), meta(3, "a", "z"), meta(9, "c", "e"), meta(63, "b", "d"))),
		"in all levels": version(
			metas(meta(20, "a", "e", Ref{7, 5}), meta(21, "a", "e", Ref{7, 1}, Ref{8, 2}), meta(22, "z", "z")),
			metas(meta(12, "a", "b"), meta(11, "d", "d", Ref{8, 1 << 30}), meta(10, "f", "i")),
			metas(meta(0, "b", "c", Ref{7, 10})),
			metas(meta(30, "\x00", "a"), meta(31, "aa", "aab"), meta(32, "ab", "c\x00"), meta(33, "c\x00a", "cc"), meta(34, "k", "\xff\xff", Ref{7, 100}))),
		"alone in level 2":  version(nil, nil, metas(meta(2, "f", "h"), meta(1, "j", "k"), meta(3, "l", "m"))),
		"long keys":         version(nil, metas(meta(1, strings.Repeat("\x00", 63), strings.Repeat("\x00", 64)), meta(2, strings.Repeat("\xff", 63), strings.Repeat("\xff", 64)))),
		"as many as can be": full(),
	}
}

// full: each zone is a table's, with a Ref to each zone.
func full() Version {
	var v Version
	var refs []Ref
	for z := range 64 {
		refs = append(refs, Ref{z, 1 << 30})
	}
	for z := range 64 {
		user := fmt.Sprintf("%02d", z)
		v.Levels[z%4] = append(v.Levels[z%4], meta(z, user, user, refs...))
	}
	return v
}

// eachSample goes through the samples, in the order of what they are.
func eachSample(t *testing.T, f func(t *testing.T, v Version)) {
	t.Helper()
	all := samples()
	var names []string
	for name := range all {
		names = append(names, name)
	}
	slices.Sort(names)
	for _, name := range names {
		t.Run(name, func(t *testing.T) { f(t, all[name]) })
	}
}

// askedUsers: the first and last keys that are there, what is near them, and what is far away.
func askedUsers(v Version) []string {
	users := []string{"", "\x00", "~", "\xff\xff\xff", strings.Repeat("\x00", 65), strings.Repeat("\xff", 65), strings.Repeat("b", 1000)}
	for _, m := range modelTables(v) {
		for _, u := range []string{m.Small.User, m.Large.User} {
			users = append(users, u, u+"\x00", u+"\xff", u[:len(u)-1], u[:len(u)-1]+string([]byte{u[len(u)-1] - 1, 255}), "\x00"+u)
		}
	}
	slices.Sort(users)
	return slices.Compact(users)
}

// someUsers: of the users' keys that are asked for no more than some fifty, as of a version with many tables there are very many pairs.
func someUsers(v Version) []string {
	users := askedUsers(v)
	var l []string
	for i := 0; i < len(users); i += 1 + len(users)/50 {
		l = append(l, users[i])
	}
	return l
}

func askedLevels() []int {
	return append(farNumbers(), 0, 1, 2, 3, 4, 5)
}

func askedZones() []int {
	l := append(farNumbers(), 64, 65, 127, 128, 255, 256)
	for z := range 64 {
		l = append(l, z)
	}
	return l
}

// heldApply applies an edit, holds what is told against the model, and, if there is an error that is asked for, against that.
func heldApply(t *testing.T, v Version, e Edit, want ...api.Errno) Version {
	t.Helper()
	mv, me := modelApply(v, e)
	next, err := v.Apply(e)
	if err != me || !modelEqual(next, mv) || len(want) > 0 && err != want[0] {
		t.Fatalf("Apply(%v) of %v: %v, %d; not %v, %d %v", e, v, next, err, mv, me, want)
	}
	if err == api.OK && next.Check() != api.OK {
		t.Fatalf("Apply(%v) of %v: %v is not right", e, v, next)
	}
	return next
}

// zonesOf: the zones of tables, in order.
func zonesOf(l []Meta) []int {
	var zones []int
	for _, m := range l {
		zones = append(zones, m.Zone)
	}
	return zones
}

// wantLevel: the tables of a level have these zones.
func wantLevel(t *testing.T, v Version, level int, want ...int) {
	t.Helper()
	if got := zonesOf(v.Levels[level]); !slices.Equal(got, want) {
		t.Errorf("level %d has %v, not %v", level, got, want)
	}
}
