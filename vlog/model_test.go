package vlog

import (
	"encoding/binary"
	"fmt"
	"math"
	"reflect"
	"slices"
	"strings"
	"testing"

	"tithebarn/api"
	"tithebarn/ikey"
	"tithebarn/reclog"
	"tithebarn/zone"
)

// numberOf: a number as the document words it.
func numberOf(n int) string {
	return string(binary.AppendUvarint(nil, uint64(n)))
}

// textOf: a text as the document words it.
func textOf(s string) string {
	return numberOf(len(s)) + s
}

// keyOf: the bytes of a key, whether it is right or not.
func keyOf(k ikey.Key) string {
	var seq [8]byte
	binary.BigEndian.PutUint64(seq[:], uint64(api.MaxNumber-k.Seq))
	user := strings.ReplaceAll(k.User, "\x00", "\x00\xff")
	return user + "\x00\x01" + string(seq[2:]) + string([]byte{byte(255 - k.Kind)})
}

// rightKey: as the document words it.
func rightKey(k ikey.Key) bool {
	return len(k.User) >= 1 && len(k.User) <= 64 && k.Seq >= 0 && k.Seq <= 1<<40 && k.Kind >= 1 && k.Kind <= 3
}

// keyIn: the right key whose bytes a text is, if there is one.
func keyIn(s string) (ikey.Key, bool) {
	n := len(s) - 9
	if n < 0 {
		return ikey.Key{}, false
	}
	seq := binary.BigEndian.Uint64([]byte("\x00\x00" + s[n+2:n+8]))
	k := ikey.Key{
		User: strings.ReplaceAll(s[:n], "\x00\xff", "\x00"),
		Seq:  1<<40 - int(seq),
		Kind: 255 - int(s[n+8]),
	}
	return k, rightKey(k) && keyOf(k) == s
}

// recordText: a value's record, as the document words it.
func recordText(k ikey.Key, v string) string {
	return textOf(keyOf(k)) + textOf(v)
}

// mostKey: how many bytes a right key has at most.
const mostKey = 2*64 + 9

// valueIn: the key and the value of a record, if it is a value's: each place where its key may begin and end is tried, and each where its value may begin.
func valueIn(record string) (ikey.Key, string, bool) {
	for i := range min(len(record), mostKey+2) + 1 {
		for head := range min(i, 2) + 1 {
			k, ok := keyIn(record[head:i])
			if !ok || textOf(record[head:i]) != record[:i] {
				continue
			}
			for j := i; j <= len(record) && j <= i+3; j++ {
				if textOf(record[j:]) == record[i:] {
					return k, record[j:], true
				}
			}
		}
	}
	return ikey.Key{}, "", false
}

// rightPointer: as the document words it.
func rightPointer(p Pointer) bool {
	return p.Zone >= 0 && p.Zone <= 63 && p.At >= 0 && p.At <= 1<<16 && p.Len >= 1 && p.Len <= 1<<16
}

// pointerText: the three numbers.
func pointerText(p Pointer) string {
	return numberOf(p.Zone) + numberOf(p.At) + numberOf(p.Len)
}

// pointerIn: the right pointer whose bytes a text is, if there is one.
func pointerIn(s string) (Pointer, bool) {
	var numbers [3]int
	rest := []byte(s)
	for i := range numbers {
		n, size := binary.Uvarint(rest)
		if size <= 0 || n > math.MaxInt {
			return Pointer{}, false
		}
		numbers[i], rest = int(n), rest[size:]
	}
	p := Pointer{numbers[0], numbers[1], numbers[2]}
	if !rightPointer(p) || pointerText(p) != s {
		return Pointer{}, false
	}
	return p, true
}

// store: a device and a log of some of its zones, and both once more: on the second ones the same is done by layers 7 and 9 alone, as the chapter words it.
type store struct {
	t      *testing.T
	d      *zone.Device
	l      *reclog.Log
	model  *zone.Device
	modelL *reclog.Log
}

func newStore(t *testing.T, g zone.Geometry, zones ...int) *store {
	t.Helper()
	s := &store{t: t, d: zone.New(g), model: zone.New(g)}
	if s.d == nil {
		t.Fatalf("no device of %v", g)
	}
	s.l, s.modelL = reclog.New(s.d, zones...), reclog.New(s.model, zones...)
	return s
}

// same: the two devices and logs stand alike.
func (s *store) same(call string) {
	s.t.Helper()
	if s.d.Done() != s.model.Done() || s.d.Down() != s.model.Down() || s.d.Opened() != s.model.Opened() {
		s.t.Fatalf("%s: %d commands, down %t; not %d, %t", call, s.d.Done(), s.d.Down(), s.model.Done(), s.model.Down())
	}
	if !slices.Equal(s.l.Zones(), s.modelL.Zones()) || s.l.Room() != s.modelL.Room() {
		s.t.Fatalf("%s: zones %v, room %d", call, s.l.Zones(), s.l.Room())
	}
	for z := range s.d.Geometry().Zones {
		a, b := s.d, s.model
		if a.State(z) != b.State(z) || a.Pointer(z) != b.Pointer(z) || a.Flushed(z) != b.Flushed(z) || a.Room(z) != b.Room(z) {
			s.t.Fatalf("%s: zone %d: state %d, %d bytes, %d flushed; not %d, %d, %d", call, z, a.State(z), a.Pointer(z), a.Flushed(z), b.State(z), b.Pointer(z), b.Flushed(z))
		}
		x, _ := a.Read(z, 0, a.Pointer(z))
		y, _ := b.Read(z, 0, b.Pointer(z))
		if string(x) != string(y) {
			s.t.Fatalf("%s: zone %d: %q, not %q", call, z, x, y)
		}
	}
}

// put puts a value, and holds what is told against the model, and, if there is an error that is asked for, against that.
func (s *store) put(k ikey.Key, v string, want ...api.Errno) Pointer {
	s.t.Helper()
	call := fmt.Sprintf("Put(%v, %d bytes)", k, len(v))
	p, e := Put(s.l, k, v)
	mp, me := s.modelPut(k, v)
	if p != mp || e != me || len(want) > 0 && e != want[0] {
		s.t.Fatalf("%s: %v, %d; not %v, %d %v", call, p, e, mp, me, want)
	}
	s.same(call)
	if e == api.OK {
		s.found(p, k, v)
	}
	return p
}

func (s *store) modelPut(k ikey.Key, v string) (Pointer, api.Errno) {
	if !rightKey(k) {
		return Pointer{}, api.ErrKey
	}
	record := recordText(k, v)
	z, at, e := s.modelL.Append([]byte(record))
	if e != api.OK {
		return Pointer{}, e
	}
	return Pointer{z, at, len(record)}, api.OK
}

// puts: the value is accepted, and its pointer is that one.
func (s *store) puts(k ikey.Key, v string, want Pointer) {
	s.t.Helper()
	if p := s.put(k, v, api.OK); p != want {
		s.t.Fatalf("Put(%v, %d bytes): %v, not %v", k, len(v), p, want)
	}
}

// found: p is right and leads to the value, Get and List tell so (List, if no torn bytes stand ahead of it), and its frame has as many bytes as Size tells.
func (s *store) found(p Pointer, k ikey.Key, v string) {
	s.t.Helper()
	if p.Check() != api.OK || !rightPointer(p) {
		s.t.Fatalf("%v is not right", p)
	}
	s.gets(p, k, v)
	_, end := reclog.Scan([]byte(s.bytesOf(p.Zone)))
	if l := s.list(p.Zone, api.OK); slices.Contains(l, Value{k, v, p}) != (end > p.At) {
		s.t.Fatalf("List(%d): %v at %v, and whole ones up to %d", p.Zone, l, p, end)
	}
	if got := Size(k, v); got != reclog.Size(p.Len) {
		s.t.Fatalf("Size(%v, %d bytes): %d, not %d", k, len(v), got, reclog.Size(p.Len))
	}
}

// get asks for a value, and holds what is told against the model, and, if there is an error that is asked for, against that.
func (s *store) get(p Pointer, k ikey.Key, want ...api.Errno) string {
	s.t.Helper()
	v, e := Get(s.l, p, k)
	mv, me := s.modelGet(p, k)
	if v != mv || e != me || len(want) > 0 && e != want[0] {
		s.t.Fatalf("Get(%v, %v): %q, %d; not %q, %d %v", p, k, v, e, mv, me, want)
	}
	return v
}

func (s *store) modelGet(p Pointer, k ikey.Key) (string, api.Errno) {
	if !rightPointer(p) {
		return "", api.ErrPointer
	}
	record, e := s.modelL.ReadAt(p.Zone, p.At, p.Len)
	if e != api.OK {
		return "", e
	}
	if key, v, ok := valueIn(string(record)); ok && reflect.DeepEqual(key, k) {
		return v, api.OK
	}
	return "", api.ErrPointer
}

// gets: the value is told.
func (s *store) gets(p Pointer, k ikey.Key, want string) {
	s.t.Helper()
	if v := s.get(p, k, api.OK); v != want {
		s.t.Fatalf("Get(%v, %v): %q, not %q", p, k, v, want)
	}
}

// list asks for the values of a zone, and holds what is told against the model, and, if there is an error that is asked for, against that.
func (s *store) list(z int, want ...api.Errno) []Value {
	s.t.Helper()
	l, e := List(s.d, z)
	ml, me := s.modelList(z)
	if !slices.Equal(l, ml) || e != me || len(want) > 0 && e != want[0] {
		s.t.Fatalf("List(%d): %v, %d; not %v, %d %v", z, l, e, ml, me, want)
	}
	return l
}

func (s *store) modelList(z int) ([]Value, api.Errno) {
	b, e := s.model.Read(z, 0, s.model.Pointer(z))
	if e != api.OK {
		return nil, e
	}
	var l []Value
	at := 0
	records, _ := reclog.Scan(b)
	for _, r := range records {
		if k, v, ok := valueIn(string(r)); ok {
			l = append(l, Value{k, v, Pointer{z, at, len(r)}})
		}
		at += len(reclog.Frame(r))
	}
	return l, api.OK
}

// lists: these are the values of the zone.
func (s *store) lists(z int, want ...Value) {
	s.t.Helper()
	if l := s.list(z, api.OK); !slices.Equal(l, want) {
		s.t.Fatalf("List(%d): %v, not %v", z, l, want)
	}
}

// record appends a record, whatever it is, and tells where it stands.
func (s *store) record(r string) Pointer {
	s.t.Helper()
	z, at, e := s.l.Append([]byte(r))
	s.modelL.Append([]byte(r))
	s.same("Append")
	if e != api.OK {
		s.t.Fatalf("Append(%q): %d", r, e)
	}
	return Pointer{z, at, len(r)}
}

// raw lays bytes in a zone, whatever they are.
func (s *store) raw(z int, b string) {
	s.d.Append(z, []byte(b))
	s.model.Append(z, []byte(b))
	s.same("Append of bytes")
}

// both does the same with both devices and logs.
func (s *store) both(f func(d *zone.Device, l *reclog.Log)) {
	s.t.Helper()
	f(s.d, s.l)
	f(s.model, s.modelL)
	s.same("both")
}

// noPower: the device is down from now on; nothing else has changed.
func (s *store) noPower() {
	s.t.Helper()
	s.both(func(d *zone.Device, l *reclog.Log) {
		d.Arm(0)
		d.Flush()
	})
	if !s.d.Down() {
		s.t.Fatal("the device is not down")
	}
}

func (s *store) crash(keep ...int) {
	s.t.Helper()
	s.both(func(d *zone.Device, l *reclog.Log) { d.Crash(keep...) })
}

// bytesOf: all bytes of a zone.
func (s *store) bytesOf(z int) string {
	s.t.Helper()
	b, e := s.d.Read(z, 0, s.d.Pointer(z))
	if e != api.OK {
		s.t.Fatalf("Read of zone %d: %d", z, e)
	}
	return string(b)
}
