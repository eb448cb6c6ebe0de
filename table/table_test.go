package table

import (
	"bytes"
	"maps"
	"math"
	"slices"
	"strings"
	"testing"

	"tithebarn/api"
	"tithebarn/ikey"
	"tithebarn/mem"
)

func mustBuild(t *testing.T, l []mem.Entry, o Options) []byte {
	t.Helper()
	b, e := Build(l, o, math.MaxInt)
	if e != api.OK {
		t.Fatalf("Build with %v: %d", o, e)
	}
	return b
}

func mustOpen(t *testing.T, b []byte) *Table {
	t.Helper()
	x, e := Open(b)
	if e != api.OK {
		t.Fatalf("Open: %d", e)
	}
	return x
}

func wantRefused(t *testing.T, what string, b []byte) {
	t.Helper()
	if x, e := Open(b); e != api.ErrTable || x != nil {
		t.Errorf("Open of %s: %v, %d", what, x, e)
	}
}

// wantOpen: Open tells these entries of b, if b is one of all bytes that they may have.
func wantOpen(t *testing.T, what string, b []byte, l []mem.Entry, all map[string]bool) bool {
	t.Helper()
	right := all[string(b)]
	if !right {
		wantRefused(t, what, b)
		return false
	}
	if x, e := Open(b); e != api.OK || !slices.Equal(x.Entries(), l) {
		t.Errorf("Open of %s: %d", what, e)
	}
	return true
}

// each goes through all samples with all options.
func each(do func(name string, l []mem.Entry, o Options)) {
	all := samples()
	for _, name := range slices.Sorted(maps.Keys(all)) {
		for _, o := range someOptions() {
			do(name, all[name], o)
		}
	}
}

// P13.1
func TestCheckOfOptions(t *testing.T) {
	numbers := []int{math.MinInt, -1, 0, 1, 2, 15, 16, 17, 31, 32, 33, 63, 64, 65, 1<<16 - 1, 1 << 16, 1<<16 + 1, math.MaxInt}
	for _, a := range numbers {
		for _, b := range numbers {
			for _, c := range numbers {
				o := Options{Block: a, Every: b, Bits: c}
				if o.Check() != modelCheck(o) {
					t.Errorf("Check of %v: %v", o, o.Check())
				}
				if _, e := Build(samples()["one"], o, math.MaxInt); (e == api.ErrRange) == modelCheck(o) {
					t.Errorf("Build with %v: %d", o, e)
				}
			}
		}
	}
	if (Options{}).Check() {
		t.Errorf("Check of the zero options")
	}
}

// P13.1
func TestBuildTellsTheBytes(t *testing.T) {
	each(func(name string, l []mem.Entry, o Options) {
		want, e := modelBuild(l, o, math.MaxInt)
		if got := mustBuild(t, l, o); e != api.OK || !bytes.Equal(got, want) {
			t.Errorf("%s with %v: %v, want %v", name, o, got, want)
		}
	})
}

// P13.1: one table, byte by byte.
func TestBuildOfOneEntry(t *testing.T) {
	got := mustBuild(t, []mem.Entry{entryOf("a", 1, 1, "x")}, Options{Block: 16, Every: 4, Bits: 8})
	key := []byte{97, 0, 1, 0, 255, 255, 255, 255, 255, 254}
	data := slices.Concat([]byte{23, 0, 10, 1}, key, []byte{'x', 0, 0, 0, 0, 0, 0, 0, 1, 4})
	index := slices.Concat([]byte{24, 0, 10, 2}, key, []byte{0, 28, 0, 0, 0, 0, 0, 0, 0, 1, 1})
	if len(got) != 28+29+14+24 || !bytes.Equal(got[4:28], data) || !bytes.Equal(got[32:57], index) {
		t.Fatalf("Build: %v", got)
	}
	if got[61] != 9 || got[62] != 5 || !bytes.Equal(got[71:91], []byte{0, 0, 0, 28, 0, 0, 0, 29, 0, 0, 0, 57, 0, 0, 0, 14, 0, 0, 0, 1}) {
		t.Errorf("Build: %v", got)
	}
}

// P13.1
func TestBuildOfAnyEntries(t *testing.T) {
	c := &chance{state: 1}
	for range 300 {
		l := someEntries(c, 1+c.below(30))
		o := Options{Block: 16 + c.below(90), Every: 1 + c.below(6), Bits: 1 + c.below(32)}
		want, _ := modelBuild(l, o, math.MaxInt)
		b := mustBuild(t, l, o)
		if !bytes.Equal(b, want) {
			t.Fatalf("%v with %v: %v, want %v", l, o, b, want)
		}
		if !slices.Equal(mustOpen(t, b).Entries(), l) {
			t.Fatalf("Open of %v with %v", l, o)
		}
	}
}

// wrongEntries: lists that are not right.
func wrongEntries() map[string][]mem.Entry {
	right := entryOf("b", 5, 2, "")
	return map[string][]mem.Entry{
		"none":             {},
		"nil":              nil,
		"twice":            {right, right},
		"twice, unlike":    {right, entryOf("b", 5, 2, "x")},
		"users fall":       {right, entryOf("a", 5, 2, "")},
		"numbers rise":     {right, entryOf("b", 6, 2, "")},
		"kinds rise":       {right, entryOf("b", 5, 3, "")},
		"a beginning last": {entryOf("ab", 1, 1, ""), entryOf("a", 1, 1, "")},
		"zeros fall":       {entryOf("a\x00", 1, 1, ""), entryOf("a", 1, 1, "")},
		"the third falls":  {entryOf("a", 1, 1, ""), entryOf("c", 1, 1, ""), entryOf("b", 1, 1, "")},
		"last falls":       {entryOf("a", 1, 1, ""), entryOf("b", 1, 1, ""), entryOf("c", 2, 1, ""), entryOf("c", 2, 1, "")},
		"no user":          {entryOf("", 5, 1, "")},
		"no user first":    {entryOf("", 5, 1, ""), right},
		"user too long":    {right, entryOf(strings.Repeat("c", 65), 5, 1, "")},
		"below 0":          {right, entryOf("c", -1, 1, "")},
		"number too great": {right, entryOf("c", 1<<40+1, 1, "")},
		"least number":     {right, entryOf("c", math.MinInt, 1, "")},
		"greatest number":  {right, entryOf("c", math.MaxInt, 1, "")},
		"kind 0":           {right, entryOf("c", 5, 0, "")},
		"kind 4":           {right, entryOf("c", 5, 4, "")},
		"least kind":       {right, entryOf("c", 5, math.MinInt, "")},
		"greatest kind":    {right, entryOf("c", 5, math.MaxInt, "")},
		"zero entry":       {{}},
	}
}

// P13.1
func TestBuildRefusesWrongEntries(t *testing.T) {
	for name, l := range wrongEntries() {
		for _, o := range someOptions() {
			for _, most := range []int{math.MinInt, -1, 0, 1000, math.MaxInt} {
				if b, e := Build(l, o, most); e != api.ErrTable || len(b) > 0 {
					t.Errorf("%s with %v: %v, %d", name, o, b, e)
				}
			}
		}
		if b, e := Build(l, Options{}, 0); e != api.ErrRange || len(b) > 0 {
			t.Errorf("%s with no options: %v, %d", name, b, e)
		}
	}
}

// P13.1
func TestBuildOfMost(t *testing.T) {
	each(func(name string, l []mem.Entry, o Options) {
		b := mustBuild(t, l, o)
		n := len(b)
		for _, most := range []int{math.MinInt, -1, 0, 1, n - 1, n, n + 1, 2 * n, math.MaxInt} {
			got, e := Build(l, o, most)
			if n > most && (e != api.ErrTooLarge || len(got) > 0) {
				t.Errorf("%s with %v, most %d: %v, %d", name, o, most, got, e)
			}
			if n <= most && (e != api.OK || !bytes.Equal(got, b)) {
				t.Errorf("%s with %v, most %d: %v, %d", name, o, most, got, e)
			}
		}
		if got, e := Build(l, Options{Block: 15, Every: 1, Bits: 1}, -1); e != api.ErrRange || len(got) > 0 {
			t.Errorf("%s with a Block of 15: %v, %d", name, got, e)
		}
	})
}

// greatMany: so many entries, in order.
func greatMany(n int) []mem.Entry {
	var l []mem.Entry
	for i := range n {
		l = append(l, entryOf(string([]byte{byte(i >> 16), byte(i >> 8), byte(i)}), i, 1+i%3, "v"))
	}
	return l
}

// P13.1, P13.3: just 2^16 entries, and one more.
func TestGreatestNumberOfEntries(t *testing.T) {
	l := greatMany(1<<16 + 1)
	for _, o := range []Options{{Block: 16, Every: 1, Bits: 1}, {Block: 1 << 16, Every: 64, Bits: 32}} {
		b := mustBuild(t, l[:1<<16], o)
		if want, _ := modelBuild(l[:1<<16], o, math.MaxInt); !bytes.Equal(b, want) {
			t.Errorf("Build with %v tells other bytes", o)
		}
		x := mustOpen(t, b)
		if x.Len() != 1<<16 || !slices.Equal(x.Entries(), l[:1<<16]) || x.Large() != l[1<<16-1].Key {
			t.Errorf("Open with %v tells other entries", o)
		}
		if got, e := Build(l, o, math.MaxInt); e != api.ErrTable || len(got) > 0 {
			t.Errorf("Build of one more with %v: %d", o, e)
		}
		groups := modelGroups(modelPairs(l), o.Block)
		wantRefused(t, "one more", partsOf(groups, usersOf(l), o.Every, o.Bits).bytes())
		for most, want := range map[int]int{len(b): 1 << 16, math.MaxInt: 1 << 16, len(b) - 1: 1<<16 - 1} {
			if n := Fit(l, o, most); n != want {
				t.Errorf("Fit with %v, most %d: %d", o, most, n)
			}
		}
	}
}

// P13.1, P13.2: a block ends with the entry by which its keys and values come to Block.
func TestWhereBlocksEnd(t *testing.T) {
	// Each key has 10 bytes, so an entry counts for 12.
	var l []mem.Entry
	for _, user := range []string{"a", "b", "c", "d", "e", "f", "g"} {
		l = append(l, entryOf(user, 1, 1, "vv"))
	}
	for _, c := range []struct{ size, count, blocks int }{
		{16, 1, 1}, {16, 2, 1}, {16, 3, 2}, {16, 4, 2}, {16, 7, 4},
		{23, 4, 2}, {24, 4, 2}, {25, 4, 2}, {24, 7, 4}, {25, 7, 3},
		{35, 6, 2}, {36, 6, 2}, {37, 6, 2}, {36, 7, 3}, {37, 7, 2},
		{83, 7, 1}, {84, 7, 1}, {85, 7, 1}, {1 << 16, 7, 1}, {72, 7, 2}, {73, 7, 1},
	} {
		o := Options{Block: c.size, Every: 2, Bits: 8}
		if x := mustOpen(t, mustBuild(t, l[:c.count], o)); x.Blocks() != c.blocks || x.Len() != c.count {
			t.Errorf("Block %d, %d entries: %d blocks", c.size, c.count, x.Blocks())
		}
	}
	for i := range l {
		l[i].Value = "vvvvvv"
	}
	if x := mustOpen(t, mustBuild(t, l, Options{Block: 16, Every: 2, Bits: 8})); x.Blocks() != 7 {
		t.Errorf("entries of 16 bytes: %d blocks", x.Blocks())
	}
	for i := range l {
		l[i].Value = "vvvvv"
	}
	if x := mustOpen(t, mustBuild(t, l, Options{Block: 16, Every: 2, Bits: 8})); x.Blocks() != 4 {
		t.Errorf("entries of 15 bytes: %d blocks", x.Blocks())
	}
}

// P13.1, P13.2
func TestOpenTellsTheEntries(t *testing.T) {
	each(func(name string, l []mem.Entry, o Options) {
		b := mustBuild(t, l, o)
		x := mustOpen(t, b)
		if !slices.Equal(x.Entries(), l) || x.Len() != len(l) {
			t.Errorf("%s with %v: %v", name, o, x.Entries())
		}
		if x.Small() != l[0].Key || x.Large() != l[len(l)-1].Key {
			t.Errorf("%s with %v: %v to %v", name, o, x.Small(), x.Large())
		}
		if n := len(modelGroups(modelPairs(l), o.Block)); x.Blocks() != n {
			t.Errorf("%s with %v: %d blocks, want %d", name, o, x.Blocks(), n)
		}
		if again := mustBuild(t, x.Entries(), o); !bytes.Equal(again, b) {
			t.Errorf("%s with %v: Build of what Open tells: %v", name, o, again)
		}
	})
}

// P13.1: which number of bits the filter was made with, is seen of few entries by its probes alone.
func TestOpenOfAllOptions(t *testing.T) {
	c := &chance{state: 2}
	for n := 1; n <= 12; n++ {
		l := someEntries(c, n)
		for bits := 1; bits <= 32; bits++ {
			for _, every := range []int{1, 2, 3, 63, 64} {
				for _, size := range []int{16, 17, 40, 1<<16 - 1, 1 << 16} {
					o := Options{Block: size, Every: every, Bits: bits}
					if x, e := Open(mustBuild(t, l, o)); e != api.OK || !slices.Equal(x.Entries(), l) {
						t.Fatalf("%v with %v: %d", l, o, e)
					}
				}
			}
		}
	}
}

// P13.1: an entry may count for more than any Block.
func TestOpenOfGreatValues(t *testing.T) {
	great := strings.Repeat("v", 1<<16-10)
	for _, value := range []string{great[1:], great, great + "v", great + great} {
		one := []mem.Entry{entryOf("a", 1, 1, value)}
		two := append(one, entryOf("b", 1, 1, value))
		for _, size := range []int{16, 1<<16 - 1, 1 << 16} {
			for _, l := range [][]mem.Entry{one, two} {
				o := Options{Block: size, Every: 1, Bits: 8}
				b := mustBuild(t, l, o)
				if want, _ := modelBuild(l, o, math.MaxInt); !bytes.Equal(b, want) {
					t.Errorf("%d bytes, Block %d: other bytes", len(value), size)
				}
				if !slices.Equal(mustOpen(t, b).Entries(), l) {
					t.Errorf("%d bytes, Block %d: other entries", len(value), size)
				}
			}
		}
		// Both in one block, as of a Block above what the first one counts for.
		together := partsOf([][]pair{modelPairs(two)}, usersOf(two), 1, 8).bytes()
		if _, e := Open(together); (e == api.OK) != (10+len(value) < 1<<16) {
			t.Errorf("two of %d bytes in one block: %d", len(value), e)
		}
	}
}

// P13.1
func TestOpenOfCutBytes(t *testing.T) {
	wantRefused(t, "nothing", nil)
	wantRefused(t, "nothing", []byte{})
	each(func(name string, l []mem.Entry, o Options) {
		b := mustBuild(t, l, o)
		for i := range b {
			if i%max(1, len(b)/200) == 0 || i+30 > len(b) {
				wantRefused(t, name+" cut off", b[:i])
				wantRefused(t, name+" without its beginning", b[i+1:])
			}
		}
		wantRefused(t, name+" with a 0 behind", append(slices.Clone(b), 0))
		wantRefused(t, name+" with a 0 ahead", append([]byte{0}, b...))
		wantRefused(t, name+" twice", append(slices.Clone(b), b...))
		wantRefused(t, name+" with its foot twice", append(slices.Clone(b), b[len(b)-24:]...))
	})
}

// P13.1
func TestOpenOfTurnedBytes(t *testing.T) {
	l := samples()["of the chapter"]
	b := mustBuild(t, l, Options{Block: 30, Every: 2, Bits: 10})
	for i := range b {
		for turn := 1; turn < 256; turn++ {
			b[i] ^= byte(turn)
			wantRefused(t, "a byte turned", b)
			b[i] ^= byte(turn)
		}
	}
	mustOpen(t, b)
}

// P13.1: each part is another one than the other parts say, with all sums right.
func TestOpenOfOtherParts(t *testing.T) {
	each(func(name string, l []mem.Entry, o Options) {
		if name == "greatest" {
			return
		}
		right := func() parts { return modelParts(l, o) }
		all := modelAll(l, o.Every)
		if !wantOpen(t, name, right().bytes(), l, all) {
			t.Errorf("%s with %v is not right", name, o)
		}
		for what, p := range otherParts(l, o, right) {
			wantOpen(t, name+": "+what, p.bytes(), l, all)
		}
	})
}

// otherParts: parts of which one is not what it was.
func otherParts(l []mem.Entry, o Options, right func() parts) map[string]parts {
	all := map[string]parts{}
	put := func(what string, change func(p *parts)) {
		p := right()
		change(&p)
		all[what] = p
	}
	for i := range 5 {
		for name, n := range map[string]int{"less": -1, "more": 1, "far more": 1 << 20, "as great as can be": 1<<32 - 1} {
			put("a foot's number is "+name+string(rune('0'+i)), func(p *parts) { p.foot[i] += n })
		}
	}
	put("a foot with another sum", func(p *parts) { p.sum = 1 })
	for _, bits := range []int{1, 2, 7, 8, 9, 10, 16, 31, 32} {
		put("a filter of other bits"+string(rune('0'+bits)), func(p *parts) { p.filter = modelFilter(usersOf(l), len(l), bits) })
		put("a filter for one more"+string(rune('0'+bits)), func(p *parts) { p.filter = modelFilter(usersOf(l), len(l)+1, bits) })
		put("a filter with other users"+string(rune('0'+bits)), func(p *parts) { p.filter = modelFilter(nil, len(l), bits) })
	}
	put("a filter of other probes", func(p *parts) { p.filter[0]++ })
	put("a filter of no probes", func(p *parts) { p.filter[0] = 0 })
	put("a filter with a byte more", func(p *parts) { p.filter = append(p.filter, 0) })
	put("a filter with a byte less", func(p *parts) { p.filter = p.filter[:len(p.filter)-1] })
	put("a filter of nothing", func(p *parts) { p.filter = nil })
	for bit := range 64 {
		put("a filter with a bit turned"+string(rune('0'+bit)), func(p *parts) { p.filter[1+bit/8] ^= 1 << (bit % 8) })
	}
	put("no filter", func(p *parts) { p.filter = p.index })
	put("no index", func(p *parts) { p.index = p.filter })
	put("an index of nothing", func(p *parts) { p.index = nil })
	put("no data", func(p *parts) { p.data = nil })
	put("an empty block more", func(p *parts) { p.data = append(p.data, modelBlock(nil, o.Every)) })
	put("a block that is none", func(p *parts) { p.data = append(p.data, []byte("none")) })
	put("a block twice", func(p *parts) { p.data = append(p.data, p.data[0]) })
	put("blocks the other way", func(p *parts) { slices.Reverse(p.data) })
	return all
}

// P13.1: an index whose last key, place or length is another one.
func TestOpenOfOtherIndex(t *testing.T) {
	each(func(name string, l []mem.Entry, o Options) {
		groups := modelGroups(modelPairs(l), o.Block)
		if len(groups) > 12 {
			groups, l = groups[:12], l[:len(slices.Concat(groups[:12]...))]
		}
		indexes := map[string][]byte{"with another Every": modelBlock(modelIndex(groups, o.Every), 2)}
		if len(groups) > 1 {
			indexes["with one less"] = modelBlock(modelIndex(groups, o.Every)[1:], 1)
			indexes["in one pair"] = modelBlock(modelIndex([][]pair{slices.Concat(groups...)}, o.Every), 1)
		}
		for i := range groups {
			with := func(what string, change func(p *pair)) {
				index := modelIndex(groups, o.Every)
				change(&index[i])
				indexes[what+string(rune('0'+i))] = modelBlock(index, 1)
			}
			with("last key", func(p *pair) { p.key += "\x00" })
			with("cut last key", func(p *pair) { p.key = p.key[:len(p.key)-1] })
			with("first key", func(p *pair) { p.key = groups[i][0].key + "x" })
			with("place", func(p *pair) { p.value = string([]byte{p.value[0] + 1}) + p.value[1:] })
			with("length", func(p *pair) { p.value = p.value[:len(p.value)-1] + string([]byte{p.value[len(p.value)-1] + 1}) })
			with("more", func(p *pair) { p.value += "\x00" })
			with("nothing", func(p *pair) { p.value = "" })
		}
		for what, index := range indexes {
			p := partsOf(groups, usersOf(l), o.Every, o.Bits)
			p.index = index
			wantRefused(t, name+" with an index "+what, p.bytes())
		}
	})
}

// P13.1: data blocks that end anywhere: right, if there is a Block by which they end there.
func TestOpenOfOtherBlocks(t *testing.T) {
	c := &chance{state: 3}
	rights, wrongs := 0, 0
	for range 1500 {
		l := someEntries(c, 1+c.below(6))
		pairs := modelPairs(l)
		var groups [][]pair
		from := 0
		for i := range pairs {
			if c.below(2) == 0 || i == len(pairs)-1 {
				groups = append(groups, pairs[from:i+1])
				from = i + 1
			}
		}
		every := 1 + c.below(3)
		if wantOpen(t, "blocks that end anywhere", partsOf(groups, usersOf(l), every, 8).bytes(), l, modelAll(l, every)) {
			rights++
		} else {
			wrongs++
		}
	}
	if rights < 200 || wrongs < 200 {
		t.Errorf("%d right, %d wrong", rights, wrongs)
	}
}

// P13.1: blocks whose entries come to 12 bytes each: there may be a Block for those that end so, or none.
func TestOpenOfBlocksOfSizes(t *testing.T) {
	var l []mem.Entry
	for i := range 12 {
		l = append(l, entryOf(string(rune('a'+i)), 1, 1, "vv"))
	}
	for _, c := range []struct {
		sizes []int
		right bool
	}{
		{[]int{2}, true}, {[]int{2, 1}, true}, {[]int{2, 2}, true}, {[]int{1, 2}, false}, {[]int{1, 1}, false}, {[]int{2, 3}, false},
		{[]int{3, 2}, true}, {[]int{3, 3, 1}, true}, {[]int{3, 2, 3}, false}, {[]int{2, 3, 2}, false}, {[]int{1}, true}, {[]int{12}, true}, {[]int{5, 6}, false}, {[]int{6, 6}, true}, {[]int{6, 5}, true},
	} {
		var groups [][]pair
		n := 0
		for _, size := range c.sizes {
			groups = append(groups, modelPairs(l[n:n+size]))
			n += size
		}
		if right := wantOpen(t, "blocks", partsOf(groups, usersOf(l[:n]), 4, 8).bytes(), l[:n], modelAll(l[:n], 4)); right != c.right {
			t.Errorf("blocks of %v: %v", c.sizes, right)
		}
	}
}

// P13.1: blocks of several Every, keys that are not right or not in order, with all sums right.
func TestOpenOfOtherPairs(t *testing.T) {
	l := samples()["many"][:12]
	groups := modelGroups(modelPairs(l), 30)
	mixed := partsOf(groups, usersOf(l), 2, 8)
	mixed.data[1] = modelBlock(groups[1], 3)
	wantRefused(t, "blocks of two Every", mixed.bytes())
	for name, wrong := range wrongEntries() {
		if len(wrong) == 0 || wrong[0].Key.User == "" {
			continue
		}
		if wrong[len(wrong)-1].Key.Check() == api.OK {
			p := partsOf([][]pair{modelPairs(wrong)}, usersOf(wrong), 1, 8)
			wantRefused(t, name+", in one block", p.bytes())
		}
		var one [][]pair
		for _, x := range modelPairs(wrong) {
			one = append(one, []pair{x})
		}
		wantRefused(t, name+", one a block", partsOf(one, usersOf(wrong), 1, 8).bytes())
	}
	for _, key := range []string{"", "a", "a\x00\x01", modelKey(l[0].Key) + "\x00", "a\x00\x02" + modelKey(l[0].Key)[3:]} {
		p := partsOf([][]pair{{{key, "v"}}}, []string{"a"}, 1, 8)
		wantRefused(t, "a key that is not right", p.bytes())
	}
}

// P13.1, P1: no bytes are too wrong for Open.
func TestOpenOfAnyBytes(t *testing.T) {
	c := &chance{state: 4}
	for range 2000 {
		b := make([]byte, c.below(120))
		for i := range b {
			b[i] = byte(c.below(256))
		}
		wantRefused(t, "any bytes", b)
		var p parts
		for range c.below(4) {
			p.data = append(p.data, b[:c.below(len(b)+1)])
		}
		p.index, p.filter, p.foot = b, b[:c.below(len(b)+1)], map[int]int{4: c.below(9)}
		wantRefused(t, "any bytes in frames", p.bytes())
	}
	wantRefused(t, "zeros", make([]byte, 1000))
	wantRefused(t, "a foot alone", parts{}.bytes()[10:])
}

// P13.2
func TestGet(t *testing.T) {
	all := samples()
	for _, name := range slices.Sorted(maps.Keys(all)) {
		l := all[name]
		x := mustOpen(t, mustBuild(t, l, Options{Block: 30, Every: 3, Bits: 4}))
		for _, user := range askedUsers(l) {
			for _, at := range askedNumbers(l) {
				want, there := modelGet(l, user, at)
				if got, ok := x.Get(user, at); got != want || ok != there {
					t.Errorf("%s: Get(%q, %d): %v, %v, want %v", name, user, at, got, ok, want)
				}
			}
		}
	}
}

// askedUsers: the users' keys that are there, what is near them, and what is far away.
func askedUsers(l []mem.Entry) []string {
	users := []string{"", "\x00", "~", "\xff\xff", strings.Repeat("\x00", 65), strings.Repeat("\xff", 65), strings.Repeat("b", 1000)}
	for _, u := range usersOf(l) {
		users = append(users, u, u+"\x00", u+"\xff", u[:len(u)-1], u[:len(u)-1]+"\x01", "\x00"+u)
	}
	slices.Sort(users)
	return slices.Compact(users)
}

// askedNumbers: each entry's number, and what is near it.
func askedNumbers(l []mem.Entry) []int {
	numbers := []int{math.MinInt, math.MinInt + 1, -1, 0, 1, 1 << 40, 1<<40 + 1, math.MaxInt}
	for _, x := range l {
		numbers = append(numbers, x.Key.Seq-1, x.Key.Seq, x.Key.Seq+1)
	}
	slices.Sort(numbers)
	return slices.Compact(numbers)
}

// P13.2
func TestGetOfAnyEntries(t *testing.T) {
	c := &chance{state: 5}
	for range 60 {
		l := someEntries(c, 1+c.below(40))
		x := mustOpen(t, mustBuild(t, l, Options{Block: 16 + c.below(200), Every: 1 + c.below(5), Bits: 1 + c.below(12)}))
		for _, user := range askedUsers(l) {
			for at := -1; at < 5; at++ {
				want, there := modelGet(l, user, at)
				if got, ok := x.Get(user, at); got != want || ok != there {
					t.Fatalf("%v: Get(%q, %d): %v, %v", l, user, at, got, ok)
				}
			}
		}
	}
}

// P13.2
func TestMay(t *testing.T) {
	others := 0
	each(func(name string, l []mem.Entry, o Options) {
		x := mustOpen(t, mustBuild(t, l, o))
		filter := modelFilter(usersOf(l), len(l), o.Bits)
		for _, user := range askedUsers(l) {
			may := x.May(user)
			if may != modelMay(filter, user) {
				t.Errorf("%s with %v: May(%q): %v", name, o, user, may)
			}
			if slices.Contains(usersOf(l), user) && !may {
				t.Errorf("%s with %v: May(%q) of one that is there", name, o, user)
			}
			if !may {
				others++
			}
		}
	})
	if others < 100 {
		t.Errorf("May is false %d times only", others)
	}
}

// P13.3
func TestFit(t *testing.T) {
	each(func(name string, l []mem.Entry, o Options) {
		wantFit(t, name, l, o)
	})
	c := &chance{state: 6}
	for range 150 {
		l := someEntries(c, 1+c.below(20))
		wantFit(t, "any", l, Options{Block: 16 + c.below(90), Every: 1 + c.below(6), Bits: 1 + c.below(32)})
	}
}

// wantFit: Fit tells what the model does, with what each number of entries needs as most, one less, and one more.
func wantFit(t *testing.T, name string, l []mem.Entry, o Options) {
	t.Helper()
	sizes := modelSizes(l, o)
	for _, most := range []int{math.MinInt, -1, 0, 1, 94, math.MaxInt} {
		if n := Fit(l, o, most); n != modelFit(sizes, most) {
			t.Errorf("%s with %v, most %d: Fit %d, want %d", name, o, most, n, modelFit(sizes, most))
		}
	}
	for _, size := range sizes {
		for most := size - 1; most <= size+1; most++ {
			n := Fit(l, o, most)
			if n != modelFit(sizes, most) {
				t.Errorf("%s with %v, most %d: Fit %d, want %d", name, o, most, n, modelFit(sizes, most))
			}
			if n == 0 {
				continue
			}
			if _, e := Build(l[:n], o, most); e != api.OK {
				t.Errorf("%s with %v, most %d: Build of what fits: %d", name, o, most, e)
			}
		}
	}
}

// P13.3: with one entry more there may be fewer bytes, as another key is a block's last one.
func TestFitOfMoreThanTheFirstTooMany(t *testing.T) {
	long := strings.Repeat("\x00", 64)
	l := []mem.Entry{entryOf(long, 1, 1, ""), entryOf("b", 1, 1, ""), entryOf("b"+long[1:], 1, 1, ""), entryOf("c", 1, 1, "")}
	for _, o := range []Options{{Block: 1 << 16, Every: 4, Bits: 8}, {Block: 138, Every: 4, Bits: 8}} {
		sizes := modelSizes(l, o)
		if sizes[2] >= sizes[1] || sizes[4] >= sizes[3] {
			t.Fatalf("sizes with %v: %v", o, sizes)
		}
		wantFit(t, "long keys", l, o)
		if n := Fit(l, o, sizes[2]); n != 2 {
			t.Errorf("Fit with %v of what two need: %d", o, n)
		}
		if n := Fit(l, o, sizes[4]); n != 4 {
			t.Errorf("Fit with %v of what four need: %d", o, n)
		}
	}
}

// P13.3
func TestFitOfWrongEntries(t *testing.T) {
	for name, l := range wrongEntries() {
		for _, o := range someOptions() {
			wantFit(t, name, l, o)
			if n := Fit(l, o, math.MaxInt); n == len(l) && n > 0 {
				t.Errorf("%s with %v: Fit %d", name, o, n)
			}
		}
	}
	for _, n := range []int{math.MinInt, -1, 0, 1, 15, 65, 1<<16 + 1, math.MaxInt} {
		for _, o := range []Options{{n, 4, 8}, {512, n, 8}, {512, 4, n}} {
			want := 0
			if modelCheck(o) {
				want = 5
			}
			if got := Fit(samples()["of the chapter"], o, math.MaxInt); got != want {
				t.Errorf("Fit with %v: %d", o, got)
			}
		}
	}
	if Fit(nil, Options{}, math.MaxInt) != 0 {
		t.Errorf("Fit of nothing")
	}
}

// P13.3: great sizes, whose numbers have more groups of seven bits.
func TestFitOfGreatValues(t *testing.T) {
	var l []mem.Entry
	for i := range 40 {
		l = append(l, entryOf(string(rune('a'+i)), 1, 1, strings.Repeat("v", 110*i)))
	}
	for _, o := range []Options{{Block: 1 << 16, Every: 64, Bits: 32}, {Block: 300, Every: 1, Bits: 1}, {Block: 5000, Every: 4, Bits: 8}} {
		wantFit(t, "great values", l, o)
	}
}

// spare: the list with entries behind it that no call may touch.
func spare(l []mem.Entry) []mem.Entry {
	more := append(slices.Clone(l), entryOf("spare", 1, 1, "spare"), entryOf("room", 1, 1, "room"))
	return more[:len(l)]
}

// P13.4
func TestWhatIsHandedInStays(t *testing.T) {
	each(func(name string, l []mem.Entry, o Options) {
		in := spare(l)
		before := slices.Clone(in[:cap(in)])
		b := mustBuild(t, in, o)
		Fit(in, o, len(b))
		Fit(in, o, len(b)-1)
		if !slices.Equal(in[:cap(in)], before) {
			t.Errorf("%s with %v: the entries changed", name, o)
		}
		for i := range in[:cap(in)] {
			in[:cap(in)][i] = entryOf("spoilt", 1, 1, "")
		}
		if again := mustBuild(t, l, o); !bytes.Equal(again, b) {
			t.Errorf("%s with %v: the bytes changed with the entries", name, o)
		}
	})
}

// P13.4
func TestOpenKeepsNoBytes(t *testing.T) {
	each(func(name string, l []mem.Entry, o Options) {
		b := mustBuild(t, l, o)
		in := append(slices.Clone(b), "spare"...)
		x := mustOpen(t, in[:len(b)])
		if !bytes.Equal(in[:len(b)], b) || string(in[len(b):]) != "spare" {
			t.Errorf("%s with %v: the bytes changed", name, o)
		}
		for i := range in {
			in[i] = 77
		}
		if !slices.Equal(x.Entries(), l) {
			t.Errorf("%s with %v: the entries changed with the bytes", name, o)
		}
		filter := modelFilter(usersOf(l), len(l), o.Bits)
		for _, user := range askedUsers(l) {
			want, _ := modelGet(l, user, 5)
			if got, _ := x.Get(user, 5); got != want || x.May(user) != modelMay(filter, user) {
				t.Errorf("%s with %v: %q changed with the bytes", name, o, user)
			}
		}
	})
}

// P13.4
func TestWhatIsToldIsNew(t *testing.T) {
	each(func(name string, l []mem.Entry, o Options) {
		b := mustBuild(t, l, o)
		again := mustBuild(t, l, o)
		for i := range again[:cap(again)] {
			again[:cap(again)][i] = 77
		}
		x := mustOpen(t, b)
		told := x.Entries()
		for i := range told[:cap(told)] {
			told[:cap(told)][i] = mem.Entry{}
		}
		if !slices.Equal(x.Entries(), l) || x.Small() != l[0].Key || x.Large() != l[len(l)-1].Key {
			t.Errorf("%s with %v: the table changed with what it told", name, o)
		}
		if want, _ := modelBuild(l, o, math.MaxInt); !bytes.Equal(b, want) {
			t.Errorf("%s with %v: the bytes changed with other ones", name, o)
		}
	})
}

// P13.2, P13.4: asking changes nothing.
func TestAskingChangesNothing(t *testing.T) {
	l := samples()["many"]
	o := Options{Block: 64, Every: 3, Bits: 8}
	b := mustBuild(t, l, o)
	x, other := mustOpen(t, b), mustOpen(t, b)
	for range 3 {
		for _, user := range askedUsers(l) {
			got, ok := x.Get(user, 50)
			want, there := other.Get(user, 50)
			if got != want || ok != there || x.May(user) != other.May(user) {
				t.Errorf("%q: %v, %v", user, got, want)
			}
		}
		if !slices.Equal(x.Entries(), l) || x.Len() != len(l) || x.Blocks() != other.Blocks() || x.Small() != other.Small() || x.Large() != other.Large() {
			t.Errorf("asking changed what is told")
		}
	}
}

// P1: no call panics.
func TestAnyArguments(t *testing.T) {
	c := &chance{state: 7}
	numbers := []int{math.MinInt, -1, 0, 1, 4, 16, 64, 1 << 16, 1 << 40, math.MaxInt}
	any := func() int { return numbers[c.below(len(numbers))] }
	for range 20000 {
		var l []mem.Entry
		for i := range c.below(4) {
			user := strings.Repeat(string(rune('a'+i)), c.below(3)*c.below(40))
			l = append(l, entryOf(user, any(), any()%4, strings.Repeat("v", c.below(9))))
		}
		o := Options{Block: any(), Every: any(), Bits: any()}
		if c.below(2) == 0 {
			o = Options{Block: 30, Every: 2, Bits: 8}
		}
		most := any()
		want, wantE := modelBuild(l, o, most)
		got, e := Build(l, o, most)
		if e != wantE || !bytes.Equal(got, want) {
			t.Fatalf("Build(%v, %v, %d): %d, want %d", l, o, most, e, wantE)
		}
		if n := modelFit(modelSizes(l, o), most); Fit(l, o, most) != n {
			t.Fatalf("Fit(%v, %v, %d): %d, want %d", l, o, most, Fit(l, o, most), n)
		}
	}
}

// P13.1, P13.2: the chapter's example.
func TestExample(t *testing.T) {
	l := []mem.Entry{entryOf("a", 1, 1, "x")}
	x := mustOpen(t, mustBuild(t, l, Options{Block: 512, Every: 4, Bits: 8}))
	if x.Len() != 1 || x.Blocks() != 1 || x.Small() != x.Large() || x.Small() != (ikey.Key{User: "a", Seq: 1, Kind: 1}) {
		t.Errorf("Open: %d entries, %d blocks", x.Len(), x.Blocks())
	}
	if got, ok := x.Get("a", 1); !ok || got != l[0] {
		t.Errorf("Get(a, 1): %v, %v", got, ok)
	}
	if got, ok := x.Get("a", 0); ok || got != (mem.Entry{}) {
		t.Errorf("Get(a, 0): %v, %v", got, ok)
	}
	if got, ok := x.Get("b", 9); ok || got != (mem.Entry{}) {
		t.Errorf("Get(b, 9): %v, %v", got, ok)
	}
}
