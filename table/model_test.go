package table

import (
	"hash/crc32"
	"math"
	"slices"
	"strings"

	"tithebarn/api"
	"tithebarn/ikey"
	"tithebarn/mem"
)

// The model: the chapter's words, and those of the chapters that it names, said anew.

func entryOf(user string, seq, kind int, value string) mem.Entry {
	return mem.Entry{Key: ikey.Key{User: user, Seq: seq, Kind: kind}, Value: value}
}

// chance: numbers that look like any, the same in each run.
type chance struct{ state uint64 }

func (c *chance) below(n int) int {
	c.state = c.state*6364136223846793005 + 1442695040888963407
	return int(c.state>>33) % n
}

// pair: the bytes of a key, and a value.
type pair struct{ key, value string }

func modelNumber(n int) []byte {
	var b []byte
	for n >= 128 {
		b = append(b, byte(128+n%128))
		n /= 128
	}
	return append(b, byte(n))
}

func modelWord(n int) []byte {
	return []byte{byte(n / 16777216), byte(n / 65536), byte(n / 256), byte(n)}
}

func modelSum(b []byte) uint32 {
	return crc32.Checksum(b, crc32.MakeTable(crc32.Castagnoli))
}

func modelMask(c uint32) uint32 {
	return (c>>15 | c<<17) + 0xa282ead8
}

func modelFrame(b []byte) []byte {
	body := append(modelNumber(len(b)), b...)
	return append(modelWord(int(modelMask(modelSum(body)))), body...)
}

func modelKey(k ikey.Key) string {
	b := []byte(strings.ReplaceAll(k.User, "\x00", "\x00\xff") + "\x00\x01")
	less := 1<<40 - k.Seq
	for _, part := range []int{1 << 40, 1 << 32, 1 << 24, 1 << 16, 1 << 8, 1} {
		b = append(b, byte(less/part))
	}
	return string(append(b, byte(255-k.Kind)))
}

func modelPairs(l []mem.Entry) []pair {
	var pairs []pair
	for _, x := range l {
		pairs = append(pairs, pair{modelKey(x.Key), x.Value})
	}
	return pairs
}

func modelRight(l []mem.Entry) bool {
	for i, x := range l {
		k := x.Key
		if k.User == "" || len(k.User) > 64 || k.Seq < 0 || k.Seq > 1<<40 || k.Kind < 1 || k.Kind > 3 {
			return false
		}
		if i > 0 && modelKey(l[i-1].Key) >= modelKey(k) {
			return false
		}
	}
	return len(l) >= 1
}

// modelBlock: the bytes of pairs, with that number.
func modelBlock(l []pair, every int) []byte {
	var b, places []byte
	for i, p := range l {
		shared := 0
		if i%every == 0 {
			places = append(places, modelWord(len(b))...)
		} else {
			for shared < min(len(p.key), len(l[i-1].key)) && p.key[shared] == l[i-1].key[shared] {
				shared++
			}
		}
		b = append(b, modelNumber(shared)...)
		b = append(b, modelNumber(len(p.key)-shared)...)
		b = append(b, modelNumber(len(p.value))...)
		b = append(b, p.key[shared:]+p.value...)
	}
	restarts := len(places) / 4
	b = append(b, places...)
	b = append(b, modelWord(restarts)...)
	return append(b, byte(every))
}

// modelFilter: the bytes of a filter with these users' keys.
func modelFilter(users []string, count, bits int) []byte {
	size := (max(count*bits, 64) + 7) / 8 * 8
	probes := max(bits*7/10, 1)
	b := make([]byte, 1+size/8)
	b[0] = byte(probes)
	for _, u := range users {
		for _, at := range modelPlaces(u, size, probes) {
			b[1+at/8] |= 1 << (at % 8)
		}
	}
	return b
}

func modelPlaces(user string, size, probes int) []int {
	a := modelSum([]byte(user))
	d := modelMask(a) | 1
	var l []int
	for i := range probes {
		l = append(l, int((uint64(a)+uint64(i)*uint64(d))%uint64(size)))
	}
	return l
}

// modelMay: a filter of so many keys and bits has the user's key.
func modelMay(filter []byte, user string) bool {
	for _, at := range modelPlaces(user, 8*(len(filter)-1), int(filter[0])) {
		if filter[1+at/8]&(1<<(at%8)) == 0 {
			return false
		}
	}
	return true
}

// modelGroups: what pairs each data block has.
func modelGroups(l []pair, size int) [][]pair {
	var groups [][]pair
	var group []pair
	n := 0
	for i, p := range l {
		group = append(group, p)
		n += len(p.key + p.value)
		if n >= size || i == len(l)-1 {
			groups = append(groups, group)
			group, n = nil, 0
		}
	}
	return groups
}

// parts: what a table is put together of, each as a test may have it.
type parts struct {
	data   [][]byte
	index  []byte
	filter []byte
	// What the foot says otherwise than it is, and what is added to its sum.
	foot map[int]int
	sum  int
}

// bytes: the parts put together, each in its frame.
func (p parts) bytes() []byte {
	var b []byte
	for _, d := range p.data {
		b = append(b, modelFrame(d)...)
	}
	index, filter := modelFrame(p.index), modelFrame(p.filter)
	f := []int{len(b), len(index), len(b) + len(index), len(filter), p.foot[4]}
	for i := range 4 {
		f[i] += p.foot[i]
	}
	var foot []byte
	for _, n := range f {
		foot = append(foot, modelWord(n)...)
	}
	foot = append(foot, modelWord(int(modelMask(modelSum(foot)))+p.sum)...)
	return slices.Concat(b, index, filter, foot)
}

// modelIndex: the pairs of the index of these data blocks.
func modelIndex(groups [][]pair, every int) []pair {
	var l []pair
	at := 0
	for _, g := range groups {
		n := len(modelFrame(modelBlock(g, every)))
		l = append(l, pair{g[len(g)-1].key, string(append(modelNumber(at), modelNumber(n)...))})
		at += n
	}
	return l
}

// partsOf: the parts of a table whose data blocks have these pairs.
func partsOf(groups [][]pair, users []string, every, bits int) parts {
	count := 0
	p := parts{index: modelBlock(modelIndex(groups, every), 1)}
	for _, g := range groups {
		p.data = append(p.data, modelBlock(g, every))
		count += len(g)
	}
	p.filter = modelFilter(users, count, bits)
	p.foot = map[int]int{4: count}
	return p
}

func usersOf(l []mem.Entry) []string {
	var users []string
	for _, x := range l {
		users = append(users, x.Key.User)
	}
	return users
}

func modelParts(l []mem.Entry, o Options) parts {
	return partsOf(modelGroups(modelPairs(l), o.Block), usersOf(l), o.Every, o.Bits)
}

func modelCheck(o Options) bool {
	return o.Block >= 16 && o.Block <= 1<<16 && o.Every >= 1 && o.Every <= 64 && o.Bits >= 1 && o.Bits <= 32
}

func modelBuild(l []mem.Entry, o Options, most int) ([]byte, api.Errno) {
	if !modelCheck(o) {
		return nil, api.ErrRange
	}
	if !modelRight(l) || len(l) > 1<<16 {
		return nil, api.ErrTable
	}
	b := modelParts(l, o).bytes()
	if len(b) > most {
		return nil, api.ErrTooLarge
	}
	return b, api.OK
}

// modelAll: all bytes that Build may tell of these entries with that Every: with any Block and any Bits.
func modelAll(l []mem.Entry, every int) map[string]bool {
	told := map[string]bool{}
	if !modelRight(l) || len(l) > 1<<16 || every < 1 || every > 64 {
		return told
	}
	pairs, all := modelPairs(l), 0
	for _, p := range pairs {
		all += len(p.key + p.value)
	}
	ahead := ""
	for size := 16; size <= min(all+16, 1<<16); size++ {
		groups := modelGroups(pairs, size)
		ends := ""
		for _, g := range groups {
			ends += g[len(g)-1].key + "|"
		}
		if ends == ahead {
			continue
		}
		ahead = ends
		for bits := 1; bits <= 32; bits++ {
			told[string(partsOf(groups, usersOf(l), every, bits).bytes())] = true
		}
	}
	return told
}

// modelGet: of the user's entries the newest that is at most so new; of those of one number that of the greatest kind.
func modelGet(l []mem.Entry, user string, at int) (mem.Entry, bool) {
	var best mem.Entry
	found := false
	for _, x := range l {
		if x.Key.User != user || x.Key.Seq > at {
			continue
		}
		newer := x.Key.Seq > best.Key.Seq || x.Key.Seq == best.Key.Seq && x.Key.Kind > best.Key.Kind
		if !found || newer {
			best, found = x, true
		}
	}
	return best, found
}

// modelSizes: how many bytes Build tells of no entry, of the first, and so on; -1, where it tells none.
func modelSizes(l []mem.Entry, o Options) []int {
	var sizes []int
	for n := range len(l) + 1 {
		b, e := modelBuild(l[:n], o, math.MaxInt)
		if e != api.OK {
			sizes = append(sizes, -1)
			continue
		}
		sizes = append(sizes, len(b))
	}
	return sizes
}

// modelFit: each number of entries is tried.
func modelFit(sizes []int, most int) int {
	fit := 0
	for n, size := range sizes {
		if size >= 0 && size <= most {
			fit = n
		}
	}
	return fit
}

// samples: entries of all the kinds that the chapter's edges name.
func samples() map[string][]mem.Entry {
	all := map[string][]mem.Entry{
		"one":            {entryOf("a", 1, 1, "x")},
		"none is put":    {entryOf("a", 1, 2, "")},
		"greatest":       {entryOf(strings.Repeat("\xff", 64), 1<<40, 3, strings.Repeat("v", 4096))},
		"only zeros":     {entryOf(strings.Repeat("\x00", 64), 0, 1, "\x00"), entryOf("\x01", 0, 1, "")},
		"long user":      {entryOf(strings.Repeat("\x00", 64), 7, 2, ""), entryOf(strings.Repeat("\x00", 64), 6, 1, "v")},
		"one user":       {entryOf("u", 9, 1, "new"), entryOf("u", 5, 3, "p"), entryOf("u", 5, 2, ""), entryOf("u", 5, 1, "old"), entryOf("u", 0, 1, "")},
		"beginnings":     {entryOf("a", 3, 1, "1"), entryOf("a\x00", 9, 1, "2"), entryOf("a\x00\x00", 1, 1, "3"), entryOf("a\x00\x01", 2, 1, "4"), entryOf("aa", 9, 2, ""), entryOf("ab", 1, 1, "5"), entryOf("abc", 7, 1, "6")},
		"of the chapter": {entryOf("a", 9, 1, "new"), entryOf("a", 3, 2, ""), entryOf("a", 1, 1, "old"), entryOf("b", 4, 3, "pointer"), entryOf("c", 2, 1, "")},
	}
	var many []mem.Entry
	for i := range 26 {
		user := strings.Repeat(string(rune('a'+i)), 1+i%5)
		many = append(many, entryOf(user, 100-i, 1, strings.Repeat("v", i*i%40)), entryOf(user, 1, 2, ""))
	}
	all["many"] = many
	return all
}

// someEntries: so many right entries, in order, of users' keys that are alike.
func someEntries(c *chance, n int) []mem.Entry {
	var l []mem.Entry
	for len(l) < n {
		user := ""
		for range 1 + c.below(3) {
			i := c.below(4)
			user += "\x00ab\xff"[i : i+1]
		}
		if c.below(9) == 0 {
			user = strings.Repeat(user, 20)
		}
		x := entryOf(user, c.below(4), 1+c.below(3), strings.Repeat("v", c.below(12)))
		has := func(y mem.Entry) bool { return y.Key == x.Key }
		if !slices.ContainsFunc(l, has) {
			l = append(l, x)
		}
	}
	slices.SortFunc(l, func(x, y mem.Entry) int {
		return strings.Compare(modelKey(x.Key), modelKey(y.Key))
	})
	return l
}

// someOptions: options of all kinds, right ones alone.
func someOptions() []Options {
	return []Options{
		{Block: 16, Every: 1, Bits: 1},
		{Block: 1 << 16, Every: 64, Bits: 32},
		{Block: 30, Every: 2, Bits: 10},
		{Block: 64, Every: 3, Bits: 8},
		{Block: 512, Every: 4, Bits: 8},
		{Block: 23, Every: 64, Bits: 7},
	}
}
