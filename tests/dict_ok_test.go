package tests

import (
	"math"
	"math/rand"
	"slices"
	"testing"

	"loop.example/g00009/impl"
)

// wantNoDict asks DictOk, and that all who take a dict refuse it.
func wantNoDict(t *testing.T, d impl.Dict, what ...any) {
	t.Helper()
	if impl.DictOk(d) {
		t.Error(what, "is taken as a dict:", dictTold(d), d.Live)
	}
	for _, key := range []int64{0, 1, 2} {
		for _, hash := range []uint64{0, 3, 11} {
			if at, looks := impl.DictFind(d, hash, key); at != -1 || looks != -1 {
				t.Error(what, "is looked through:", at, looks)
			}
			if got, ok := impl.DictPut(d, hash, key, 5); ok || !isNoDict(got) {
				t.Error(what, "is put into:", dictTold(got), ok)
			}
			if got, ok := impl.DictCut(d, hash, key); ok || !isNoDict(got) {
				t.Error(what, "is cut from:", dictTold(got), ok)
			}
		}
	}
}

func wantOk(t *testing.T, d impl.Dict, what ...any) {
	t.Helper()
	if !impl.DictOk(d) {
		t.Error(what, "is no dict:", dictTold(d), d.Live)
	}
}

// threeDict has 3:1, 11:2 in the next slot of 3's row, and a gone one in a third.
func threeDict() impl.Dict {
	return impl.Dict{Slots: []int64{1, 2, -1, 0, -1, -1, -1, -1}, Entries: []impl.DEntry{{Hash: 3, Key: 1, Val: 10}, {Hash: 11, Key: 2, Val: 20}, {Hash: 3, Gone: true}}, Live: 2}
}

func TestP7OkSizes(t *testing.T) {
	for n := range 70 {
		d := impl.Dict{Slots: slices.Repeat([]int64{-1}, n)}
		if want := n == 8 || n == 16 || n == 32 || n == 64; impl.DictOk(d) != want {
			t.Error("slots:", n, impl.DictOk(d))
		}
		if n < 8 {
			wantNoDict(t, d, n, "slots")
		}
	}
	for n := 128; n <= impl.MaxSlots; n *= 2 {
		wantOk(t, impl.Dict{Slots: slices.Repeat([]int64{-1}, n)}, n, "slots")
		wantNoDict(t, impl.Dict{Slots: slices.Repeat([]int64{-1}, n-1)}, n-1, "slots")
		wantNoDict(t, impl.Dict{Slots: slices.Repeat([]int64{-1}, n+1)}, n+1, "slots")
		wantNoDict(t, impl.Dict{Slots: slices.Repeat([]int64{-1}, n*3/4)}, n*3/4, "slots")
	}
	wantNoDict(t, impl.Dict{Slots: slices.Repeat([]int64{-1}, 2*impl.MaxSlots)}, "the power above MaxSlots")
	wantNoDict(t, laidDict(4, impl.DEntry{Hash: 3, Key: 1}), "four slots")
	wantNoDict(t, laidDict(12, impl.DEntry{Hash: 3, Key: 1}), "twelve slots")
	wantNoDict(t, laidDict(2*impl.MaxSlots, impl.DEntry{Hash: 3, Key: 1}), "too many slots")
}

func TestP7OkEmptyLists(t *testing.T) {
	wantNoDict(t, impl.Dict{}, "the zero value")
	wantNoDict(t, impl.Dict{Slots: []int64{}, Entries: []impl.DEntry{}}, "empty lists")
	wantNoDict(t, impl.Dict{Entries: []impl.DEntry{{Hash: 3, Key: 1}}, Live: 1}, "no slots")
	wantOk(t, impl.Dict{Slots: impl.NewDict().Slots, Entries: []impl.DEntry{}}, "no entries")
	wantOk(t, impl.Dict{Slots: impl.NewDict().Slots, Entries: nil}, "nil entries")
	wantNoDict(t, impl.Dict{Slots: threeDict().Slots}, "slots of no entries")
	wantNoDict(t, impl.Dict{Slots: impl.NewDict().Slots, Entries: threeDict().Entries, Live: 2}, "entries in no slot")
}

func TestP7OkSlots(t *testing.T) {
	wantOk(t, threeDict(), "three")
	for slot := range threeDict().Slots {
		for _, place := range []int64{math.MinInt64, -8, -3, -2, -1, 0, 1, 2, 3, 4, 8, math.MaxInt64, 1 << 32} {
			d := threeDict()
			if d.Slots[slot] == place {
				continue
			}
			d.Slots[slot] = place
			wantNoDict(t, d, "slot", slot, "of", place)
		}
		for other := range slot {
			d := threeDict()
			if d.Slots[slot] != d.Slots[other] {
				d.Slots[slot], d.Slots[other] = d.Slots[other], d.Slots[slot]
				wantNoDict(t, d, "slots", slot, other, "changed about")
			}
		}
	}
	list := []struct {
		what  string
		slots []int64
	}{
		{"a place in two slots", []int64{1, 2, -1, 0, -1, -1, 1, -1}},
		{"a place in no slot", []int64{1, -1, -1, 0, -1, -1, -1, -1}},
		{"another slot of the row", []int64{1, -1, -1, 0, -1, -1, 2, -1}},
		{"a slot of no row", []int64{1, 2, -1, -1, -1, 0, -1, -1}},
		{"a later entry ahead", []int64{2, 1, -1, 0, -1, -1, -1, -1}},
		{"a slot more", []int64{1, 2, -1, 0, -1, -1, -1, -1, -1}},
		{"a slot less", []int64{1, 2, -1, 0, -1, -1, -1}},
	}
	for _, c := range list {
		d := threeDict()
		d.Slots = c.slots
		wantNoDict(t, d, c.what)
	}
}

func TestP7OkEntries(t *testing.T) {
	for _, live := range []int64{math.MinInt64, -2, -1, 0, 1, 3, 4, math.MaxInt64} {
		d := threeDict()
		d.Live = live
		wantNoDict(t, d, "live", live)
	}
	for i, change := range []func(d impl.Dict){
		func(d impl.Dict) { d.Entries[2].Key = 1 },
		func(d impl.Dict) { d.Entries[2].Key = -1 },
		func(d impl.Dict) { d.Entries[2].Val = 1 },
		func(d impl.Dict) { d.Entries[2].Val = math.MinInt64 },
		func(d impl.Dict) { d.Entries[2].Gone = false },
		func(d impl.Dict) { d.Entries[0].Gone = true },
		func(d impl.Dict) { d.Entries[0].Hash = 4 },
		func(d impl.Dict) { d.Entries[1].Hash = 3 + 1<<5 },
		func(d impl.Dict) { d.Entries[0], d.Entries[1] = d.Entries[1], d.Entries[0]; d.Entries[0].Hash = 0 },
		func(d impl.Dict) { d.Entries[1].Hash, d.Entries[1].Key = 3, 1 },
	} {
		d := threeDict()
		change(d)
		wantNoDict(t, d, "change", i)
	}
	for i, change := range []func(d impl.Dict){
		func(d impl.Dict) { d.Entries[0].Key, d.Entries[0].Val = 0, 0 },
		func(d impl.Dict) { d.Entries[1].Key = 1 },
		func(d impl.Dict) { d.Entries[0].Hash = 11 },
		func(d impl.Dict) { d.Entries[2].Hash = 19 },
		func(d impl.Dict) { d.Entries[0], d.Entries[1] = d.Entries[1], d.Entries[0] },
	} {
		d := threeDict()
		change(d)
		wantOk(t, d, "change", i)
	}
	for place := range 3 {
		d := threeDict()
		d.Entries = slices.Delete(d.Entries, place, place+1)
		wantNoDict(t, d, "without entry", place)
		d = threeDict()
		d.Entries = slices.Insert(d.Entries, place, impl.DEntry{Hash: 5, Key: 5})
		wantNoDict(t, d, "with an entry more at", place)
	}
}

func TestP7OkPairs(t *testing.T) {
	live := impl.DEntry{Hash: 3, Key: 0, Val: 0}
	gone := impl.DEntry{Hash: 3, Gone: true}
	wantNoDict(t, laidDict(8, live, live), "two live ones")
	wantNoDict(t, laidDict(8, live, gone, live), "two live ones around a gone one")
	wantNoDict(t, laidDict(8, live, impl.DEntry{Hash: 3, Key: 0, Val: 7}), "two live ones of unlike Val")
	wantOk(t, laidDict(8, gone, live), "a gone and a live one")
	wantOk(t, laidDict(8, live, gone), "a live and a gone one")
	wantOk(t, laidDict(8, gone, gone, live, gone), "three gone ones and a live one")
	wantOk(t, laidDict(8, live, impl.DEntry{Hash: 3, Key: 1}, impl.DEntry{Hash: 11, Key: 0}), "other keys, other hashes")
}

func TestP7OkRoom(t *testing.T) {
	for size := 8; size <= 65536; size *= 2 {
		most := size * 2 / 3
		wantOk(t, laidDict(size, numberedEntries(most, spread, noneGone)...), most, "entries of", size)
		wantOk(t, laidDict(size, numberedEntries(most, spread, func(i int) bool { return i%3 > 0 })...), most, "entries of", size)
		wantNoDict(t, laidDict(size, numberedEntries(most+1, spread, noneGone)...), most+1, "entries of", size)
		wantNoDict(t, laidDict(size, numberedEntries(most+1, spread, func(i int) bool { return i > 0 })...), most+1, "entries of", size)
	}
	for n := range 9 {
		if d := laidDict(8, numberedEntries(n, oneHash, noneGone)...); impl.DictOk(d) != (n <= 5) {
			t.Error("entries of 8 slots:", n)
		}
	}
	wantNoDict(t, impl.Dict{Slots: impl.NewDict().Slots, Entries: make([]impl.DEntry, 100000)}, "far more entries than slots")
}

// TestP7OkOneHash has tables of the largest size that are full of one hash, and
// of few.
func TestP7OkOneHash(t *testing.T) {
	for _, k := range []int{1, 2, 50} {
		slots := slices.Repeat([]int64{-1}, 65536)
		entries := numberedEntries(43690, func(i int) uint64 { return uint64(i%k) << 59 }, noneGone)
		rows := map[uint64][]int64{}
		for i, e := range entries {
			if len(rows[e.Hash]) == 0 {
				rows[e.Hash] = firstSlots(e.Hash, 65536, 65536+14)
			}
			row := rows[e.Hash]
			for slots[row[0]] >= 0 {
				row = row[1:]
			}
			slots[row[0]] = int64(i)
			rows[e.Hash] = row
		}
		d := impl.Dict{Slots: slots, Entries: entries, Live: 43690}
		wantOk(t, d, k, "hashes")
		wantFound(t, d, 0, 0, 0, 1)
		if at, _ := impl.DictFind(d, uint64((43689)%k)<<59, 43689); at != 43689 {
			t.Error("the last one is not found:", k, at)
		}
		d.Slots[slices.Index(slots, 43689)] = -1
		wantNoDict(t, d, k, "hashes, the last one in no slot")
	}
}

// drawnDict is a dict as drawn operations make it.
func drawnDict(r *rand.Rand, steps int) *plainDict {
	p := newPlain()
	hashes := []uint64{0, 8, 3, 11, 1 << 5, 1 << 63, uint64(r.Int63()), 64}
	for range steps {
		hash, key := hashes[r.Intn(len(hashes))], int64(r.Intn(4))
		if r.Intn(3) == 0 {
			p.cut(hash, key)
		} else {
			p.put(hash, key, int64(r.Intn(5)))
		}
	}
	return p
}

// changeDict changes one thing of d, most often to one that is not far.
func changeDict(r *rand.Rand, d *impl.Dict) {
	near := func(n int64) int64 { return n + int64(r.Intn(5)-2) }
	if len(d.Entries) == 0 || r.Intn(3) == 0 {
		at := r.Intn(len(d.Slots))
		other := r.Intn(len(d.Slots))
		switch r.Intn(4) {
		case 0:
			d.Slots[at] = near(d.Slots[at])
		case 1:
			d.Slots[at], d.Slots[other] = d.Slots[other], d.Slots[at]
		case 2:
			d.Slots[at] = d.Slots[other]
		case 3:
			d.Live = near(d.Live)
		}
		return
	}
	at, other := r.Intn(len(d.Entries)), r.Intn(len(d.Entries))
	e := &d.Entries[at]
	switch r.Intn(9) {
	case 0:
		e.Key = near(e.Key)
	case 1:
		e.Val = near(e.Val)
	case 2:
		e.Hash = e.Hash ^ 1<<r.Intn(64)
	case 3:
		e.Gone = !e.Gone
	case 4:
		e.Gone, e.Key, e.Val = true, 0, 0
	case 5:
		d.Entries[at], d.Entries[other] = d.Entries[other], d.Entries[at]
	case 6:
		d.Entries[at] = d.Entries[other]
	case 7:
		d.Entries = d.Entries[:len(d.Entries)-1]
	case 8:
		d.Entries = append(d.Entries, impl.DEntry{Hash: e.Hash, Key: near(e.Key)})
	}
}

// TestP7OkByTheRule changes one thing or two of dicts and asks the rule.
func TestP7OkByTheRule(t *testing.T) {
	counts := inParallel(60000, func(i int) string {
		r := rand.New(rand.NewSource(int64(i)))
		d := drawnDict(r, r.Intn(30)).dict()
		if !impl.DictOk(d) {
			t.Error("no dict:", dictTold(d))
		}
		for range 1 + r.Intn(2) {
			changeDict(r, &d)
		}
		want := okByRule(d)
		if impl.DictOk(d) != want {
			t.Error("the rule says otherwise:", want, dictTold(d), d.Live)
		}
		at, looks := impl.DictFind(d, 3, 1)
		put, done := impl.DictPut(d, 3, 1, 1)
		cut, gone := impl.DictCut(d, 3, 1)
		if !want && (at != -1 || looks != -1 || done || gone || !isNoDict(put) || !isNoDict(cut)) {
			t.Error("what is no dict is taken:", dictTold(d), d.Live)
		}
		if want && (looks < 1 || !done || gone != (at >= 0) || !impl.DictOk(put) || !impl.DictOk(cut)) {
			t.Error("a dict is not taken:", dictTold(d), d.Live)
		}
		if want {
			return "dict"
		}
		return "none"
	})
	if counts["dict"] < 5000 || counts["none"] < 20000 {
		t.Error("too few of a kind:", counts)
	}
}
