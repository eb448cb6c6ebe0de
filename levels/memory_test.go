package levels

import (
	"math"
	"reflect"
	"slices"
	"strings"
	"testing"

	"tithebarn/api"
)

// roomy: the list with items behind it that no call may touch.
func roomy[T any](l []T, behind ...T) []T {
	more := append(slices.Clone(l), behind...)
	return more[:len(l)]
}

func spareMeta() Meta { return meta(61, "spare", "spare", Ref{61, 61}) }

func roomyMeta(m Meta) Meta {
	m.Refs = roomy(m.Refs, Ref{62, 62}, Ref{63, 63})
	return m
}

// roomyVersion: the same version, with memory of its own, and spare room in each of its lists.
func roomyVersion(v Version) Version {
	for level, l := range v.Levels {
		v.Levels[level] = roomy(l, spareMeta(), spareMeta(), spareMeta())
		for i, m := range l {
			v.Levels[level][i] = roomyMeta(m)
		}
	}
	return v
}

func roomyEdit(e Edit) Edit {
	add := roomy(e.Add, place(1, spareMeta()), place(2, spareMeta()))
	for i, p := range e.Add {
		add[i] = place(p.Level, roomyMeta(p.Meta))
	}
	return Edit{Add: add, Drop: roomy(e.Drop, 61, 62)}
}

// whole: each list of a thing with its spare room, so that a change of any can be told; all in memory of its own.
func whole(x any) any {
	return wholeValue(reflect.ValueOf(x)).Interface()
}

func wholeValue(x reflect.Value) reflect.Value {
	o := reflect.New(x.Type()).Elem()
	switch x.Kind() {
	case reflect.Struct:
		for i := range x.NumField() {
			o.Field(i).Set(wholeValue(x.Field(i)))
		}
	case reflect.Array:
		for i := range x.Len() {
			o.Index(i).Set(wholeValue(x.Index(i)))
		}
	case reflect.Slice:
		for i := range x.Cap() {
			o = reflect.Append(o, wholeValue(x.Slice(0, x.Cap()).Index(i)))
		}
	default:
		o.Set(x)
	}
	return o
}

// span: where a list stands in memory, with its spare room.
type span struct{ from, to uintptr }

// spans: where all lists of a thing stand, those in spare room, too.
func spans(x reflect.Value) []span {
	var l []span
	switch x.Kind() {
	case reflect.Struct:
		for i := range x.NumField() {
			l = append(l, spans(x.Field(i))...)
		}
	case reflect.Array:
		for i := range x.Len() {
			l = append(l, spans(x.Index(i))...)
		}
	case reflect.Slice:
		if x.Cap() > 0 {
			l = append(l, span{x.Pointer(), x.Pointer() + uintptr(x.Cap())*x.Type().Elem().Size()})
		}
		for i := range x.Cap() {
			l = append(l, spans(x.Slice(0, x.Cap()).Index(i))...)
		}
	}
	return l
}

// apart: no two lists of all these things share memory.
func apart(t *testing.T, what string, things ...any) {
	t.Helper()
	var l []span
	for _, x := range things {
		l = append(l, spans(reflect.ValueOf(x))...)
	}
	slices.SortFunc(l, func(a, b span) int { return int(a.from) - int(b.from) })
	for i := range len(l) - 1 {
		if l[i].to > l[i+1].from {
			t.Errorf("%s: memory is shared", what)
			return
		}
	}
}

// spoil has all that stands in the lists of a thing be something else, in their spare room, too.
func spoil(x any) {
	spoilValue(reflect.ValueOf(x))
}

func spoilValue(x reflect.Value) {
	switch x.Kind() {
	case reflect.Pointer:
		spoilValue(x.Elem())
	case reflect.Struct:
		for i := range x.NumField() {
			spoilValue(x.Field(i))
		}
	case reflect.Array:
		for i := range x.Len() {
			spoilValue(x.Index(i))
		}
	case reflect.Slice:
		for i := range x.Cap() {
			spoilValue(x.Slice(0, x.Cap()).Index(i))
		}
	case reflect.Int:
		x.SetInt(77)
	case reflect.String:
		x.SetString("spoilt")
	}
}

// someEdits: edits of each kind, those that are wrong among them.
func someEdits(v Version) []Edit {
	m, o := meta(50, "j", "jj", Ref{1, 1}, Ref{2, 2}), meta(51, "jk", "jl", Ref{3, 3})
	l := []Edit{
		{}, edit(nil, place(0, m)), edit(nil, place(0, m), place(0, o)), edit(nil, place(1, o), place(1, m)), edit(nil, place(3, m), place(2, o)),
		edit([]int{99}), edit(nil, place(4, m)), edit(nil, place(0, m), place(0, m)), edit(nil, place(2, m), place(2, m)), edit([]int{99}, place(0, m)),
	}
	for _, z := range zonesOf(modelTables(v)) {
		l = append(l, edit([]int{z}), edit([]int{z}, place(0, m), place(0, o)), edit([]int{z}, place(1, m)), edit([]int{z, z}), edit([]int{z}, place(4, m)))
	}
	return append(l, edit(zonesOf(modelTables(v)), place(0, m)))
}

func TestApplyLeavesWhatIsHandedIn(t *testing.T) { // P15.3
	eachSample(t, func(t *testing.T, v Version) {
		for _, e := range someEdits(v) {
			in, how := roomyVersion(v), roomyEdit(e)
			before, beforeEdit := whole(in), whole(how)
			first, firstError := in.Apply(how)
			second, _ := in.Apply(how)
			apart(t, "Apply", in, how, first, second)
			if !reflect.DeepEqual(whole(in), before) || !reflect.DeepEqual(whole(how), beforeEdit) {
				t.Fatalf("Apply(%v) changed what was handed in", e)
			}
			want, wantError := modelApply(v, e)
			spoil(&in)
			spoil(&how)
			if !modelEqual(first, want) || firstError != wantError {
				t.Fatalf("Apply(%v): what was told changed with what was handed in: %v", e, first)
			}
			spoil(&first)
			if !modelEqual(second, want) {
				t.Fatalf("Apply(%v): what was told changed with another answer: %v", e, second)
			}
		}
	})
}

func TestWhatIsDoneWithAnAnswerChangesNoVersion(t *testing.T) { // P15.3
	eachSample(t, func(t *testing.T, v Version) {
		for _, e := range someEdits(v) {
			in, how := roomyVersion(v), roomyEdit(e)
			before, beforeEdit := whole(in), whole(how)
			next, err := in.Apply(how)
			if err != api.OK {
				continue
			}
			// Also when there is room in its lists for more.
			for level, l := range next.Levels {
				next.Levels[level] = append(l, spareMeta())
			}
			spoil(&next)
			if !reflect.DeepEqual(whole(in), before) || !reflect.DeepEqual(whole(how), beforeEdit) {
				t.Fatalf("Apply(%v): what was handed in changed with what was told", e)
			}
		}
	})
}

func TestQuestionsTellNewMemory(t *testing.T) { // P15.3: At, Over, Tables
	eachSample(t, func(t *testing.T, v Version) {
		in := roomyVersion(v)
		before := whole(in)
		asks := map[string]func(v Version) []Meta{"Tables": func(v Version) []Meta { return v.Tables() }}
		for level := range api.MaxLevels {
			name := string(rune('0' + level))
			asks["Over all of "+name] = func(v Version) []Meta { return v.Over(level, "", "\xff\xff\xff") }
			asks["Over of "+name] = func(v Version) []Meta { return v.Over(level, "b", "d") }
			asks["At of "+name] = func(v Version) []Meta { return v.At(level, "b") }
		}
		for name, ask := range asks {
			want := ask(v)
			first, second := ask(in), ask(in)
			apart(t, name, in, first, second)
			spoil(first)
			if !modelSame(second, want) || !reflect.DeepEqual(whole(in), before) || !modelSame(ask(in), want) {
				t.Errorf("%s: something changed with what was told", name)
			}
			other := roomyVersion(v)
			told := ask(other)
			spoil(&other)
			if !modelSame(told, want) {
				t.Errorf("%s: what was told changed with the version", name)
			}
		}
	})
}

func TestAskingChangesNothing(t *testing.T) { // P15.3
	eachSample(t, func(t *testing.T, v Version) {
		in, other := roomyVersion(v), roomyVersion(v)
		before := whole(in)
		for range 2 {
			in.Check()
			in.Equal(other)
			in.Tables()
			for _, n := range []int{-1, 0, 1, 2, 3, 4, 7, 63, 64} {
				in.Has(n)
				in.Live(n)
				for _, user := range []string{"", "a", "c", "z"} {
					in.At(n, user)
					in.Over(n, "b", user)
					in.Deeper(n, user)
				}
			}
			for _, l := range in.Levels {
				for _, m := range l {
					m.Check()
					m.Covers("c")
				}
			}
		}
		if !reflect.DeepEqual(whole(in), before) || !reflect.DeepEqual(whole(other), before) {
			t.Errorf("asking changed something")
		}
	})
}

func TestWrongListsStay(t *testing.T) { // P15.3: neither the order of Refs, of tables, nor that of an edit is mended
	v := version(metas(meta(1, "z", "a", Ref{5, 1}, Ref{3, 1})), metas(meta(3, "m", "n"), meta(2, "a", "b")))
	e := Edit{Add: []Place{place(1, meta(9, "z", "z")), place(1, meta(8, "c", "c", Ref{9, 1}, Ref{1, 1}))}, Drop: []int{3, 1, 3}}
	before, beforeEdit := whole(v), whole(e)
	v.Check()
	v.Apply(e)
	e.Drop = e.Drop[:2]
	v.Apply(e)
	e.Drop = e.Drop[:3]
	if !reflect.DeepEqual(whole(v), before) || !reflect.DeepEqual(whole(e), beforeEdit) {
		t.Errorf("something wrong that was handed in has changed")
	}
}

// wrongVersions: versions that are not right, each for one reason or more.
func wrongVersions() []Version {
	many := strings.Repeat("m", 70)
	l := []Version{
		version(metas(Meta{})), version(metas(Meta{}, Meta{}), metas(Meta{}, Meta{}, Meta{}), metas(Meta{}), metas(Meta{})),
		version(nil, metas(meta(1, "a", "c"), meta(1, "a", "c"))), version(metas(meta(1, "a", "c")), metas(meta(1, "a", "c"))),
		version(nil, metas(meta(1, "d", "f"), meta(2, "a", "c"))), version(nil, nil, metas(meta(1, "z", "a"))),
		version(metas(meta(1, many, many, Ref{-1, -1}, Ref{-1, math.MaxInt}, Ref{-1, math.MaxInt}))),
	}
	for _, n := range farNumbers() {
		m := Meta{Zone: n, Len: n, Small: key("a", n, n), Large: key("c", n, n), Refs: []Ref{{n, n}, {n, n}}}
		l = append(l, version(metas(m)), version(nil, metas(m, m), metas(m)))
	}
	var great Version
	for level := range great.Levels {
		for i := range 2000 {
			great.Levels[level] = append(great.Levels[level], meta(i, many, many, Ref{i, i}))
		}
	}
	return append(l, great)
}

func TestNothingPanics(t *testing.T) { // P1
	versions := wrongVersions()
	for _, v := range versions {
		heldVersion(t, v, api.ErrVersion)
		for _, n := range append(askedLevels(), 63, 64) {
			for _, user := range []string{"", "a", "\x00", strings.Repeat("m", 70), strings.Repeat("\xff", 5000)} {
				heldQuestions(t, v, user, "b")
				v.Over(n, user, "")
			}
			v.Has(n)
			v.Live(n)
			for _, level := range []int{n, 0, 1} {
				m := Meta{Zone: n, Len: n, Small: key("a", n, n), Large: key("c", n, n), Refs: []Ref{{n, n}}}
				v.Apply(edit(nil, place(level, m), place(level, m)))
				v.Apply(edit([]int{n}, place(level, m)))
				v.Apply(edit([]int{n, n, 1}, place(level, meta(1, "a", "c"))))
				v.Apply(edit([]int{1, 1, 2, 2}, place(level, meta(1, "a", "c"))))
				samples()["in all levels"].Apply(edit([]int{20, n}, place(level, m)))
			}
		}
		for _, o := range versions {
			if v.Equal(o) != modelEqual(v, o) {
				t.Errorf("Equal of %v and %v: %t", v, o, v.Equal(o))
			}
		}
		v.Tables()
	}
}

func TestAnswersOfOneCallAreTheSame(t *testing.T) { // P1, P15.2: nothing is kept from call to call
	v := samples()["in all levels"]
	first := v.Tables()
	for range 3 {
		v.Apply(edit([]int{20}, place(1, meta(50, "j", "jj"))))
		v.At(3, "a")
		if !modelSame(v.Tables(), first) {
			t.Errorf("Tables: %v", v.Tables())
		}
	}
}
