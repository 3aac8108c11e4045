package tests

import (
	"math/rand"
	"slices"
	"testing"
	"unsafe"

	"loop.example/g00009/impl"
)

// listsShare tells whether two lists have memory in common, their spare room too.
func listsShare[T any, U any](a []T, b []U) bool {
	if cap(a) == 0 || cap(b) == 0 {
		return false
	}
	x, y := uintptr(unsafe.Pointer(unsafe.SliceData(a))), uintptr(unsafe.Pointer(unsafe.SliceData(b)))
	return x < y+uintptr(cap(b))*unsafe.Sizeof(b[:1][0]) && y < x+uintptr(cap(a))*unsafe.Sizeof(a[:1][0])
}

// spared is a copy of a list with spare room behind it that is filled.
func spared[T any](list []T, fill T) []T {
	out := append(slices.Clone(list), fill, fill, fill)
	return out[:len(list):len(out)]
}

// isSpared tells whether a list that spared made is as it was.
func isSpared[T comparable](got []T, list []T, fill T) bool {
	return slices.Equal(got, list) && slices.Equal(got[:cap(got)][len(list):][:3], []T{fill, fill, fill})
}

var spareEntry = impl.DEntry{Hash: 99, Key: 98, Val: 97, Gone: true}

func sparedDict(d impl.Dict) impl.Dict {
	return impl.Dict{Slots: spared(d.Slots, 96), Entries: spared(d.Entries, spareEntry), Live: d.Live}
}

func isSparedDict(got impl.Dict, d impl.Dict) bool {
	return isSpared(got.Slots, d.Slots, 96) && isSpared(got.Entries, d.Entries, spareEntry) && got.Live == d.Live
}

func overwriteDict(d impl.Dict) {
	for i := range d.Slots[:cap(d.Slots)] {
		d.Slots[:cap(d.Slots)][i] = -77
	}
	for i := range d.Entries[:cap(d.Entries)] {
		d.Entries[:cap(d.Entries)][i] = impl.DEntry{Hash: 77, Key: 77, Val: 77, Gone: true}
	}
}

// keepDicts are dicts of each kind, with room and full, and ones that are none.
func keepDicts() []impl.Dict {
	out := []impl.Dict{{}, impl.NewDict(), threeDict(), laidDict(8, numberedEntries(5, spread, noneGone)...), laidDict(8, numberedEntries(6, spread, noneGone)...),
		laidDict(16, numberedEntries(10, oneHash, func(i int) bool { return i%2 > 0 })...), laidDict(65536, numberedEntries(43690, spread, noneGone)...), laidDict(7)}
	for i := range 200 {
		r := rand.New(rand.NewSource(int64(i) + 4000))
		d := drawnDict(r, r.Intn(40)).dict()
		out = append(out, d)
		if i%5 == 0 {
			d = copyDict(d)
			changeDict(r, &d)
			out = append(out, d)
		}
	}
	return out
}

// dictAnswer is what one of the functions answers for a dict.
type dictAnswer struct {
	d    impl.Dict
	ok   bool
	nums [2]int64
}

func (a dictAnswer) equals(b dictAnswer) bool {
	return a.ok == b.ok && a.nums == b.nums && sameDict(a.d, b.d)
}

func dictCalls() map[string]func(d impl.Dict) dictAnswer {
	out := map[string]func(d impl.Dict) dictAnswer{
		"DictOk": func(d impl.Dict) dictAnswer { return dictAnswer{ok: impl.DictOk(d)} },
	}
	hashes := []uint64{3, spread(1), 77, 12345}
	for i, hash := range hashes {
		out["DictFind "+string(rune('0'+i))] = func(d impl.Dict) dictAnswer {
			at, looks := impl.DictFind(d, hash, 1)
			return dictAnswer{nums: [2]int64{at, looks}}
		}
		out["DictPut "+string(rune('0'+i))] = func(d impl.Dict) dictAnswer {
			got, ok := impl.DictPut(d, hash, 1, -4)
			return dictAnswer{d: got, ok: ok}
		}
		out["DictCut "+string(rune('0'+i))] = func(d impl.Dict) dictAnswer {
			got, ok := impl.DictCut(d, hash, 1)
			return dictAnswer{d: got, ok: ok}
		}
	}
	return out
}

func TestP20DictsTheSameTwice(t *testing.T) {
	for name, call := range dictCalls() {
		for _, d := range keepDicts() {
			given := sparedDict(d)
			first := call(given)
			kept := dictAnswer{d: copyDict(first.d), ok: first.ok, nums: first.nums}
			if !isSparedDict(given, d) {
				t.Fatal(name, "writes into its dict:", dictTold(d))
			}
			second := call(copyDict(d))
			if !second.equals(kept) {
				t.Fatal(name, "answers otherwise the second time:", dictTold(d))
			}
			overwriteDict(first.d)
			if !isSparedDict(given, d) || !second.equals(kept) || !call(given).equals(kept) {
				t.Fatal(name, "answers memory that it keeps or was given:", dictTold(d))
			}
		}
	}
}

func TestP20DictsAreNewMemory(t *testing.T) {
	for name, call := range dictCalls() {
		for _, d := range keepDicts() {
			given := sparedDict(d)
			got := call(given).d
			if listsShare(got.Slots, given.Slots) || listsShare(got.Entries, given.Entries) || listsShare(got.Slots, given.Entries) || listsShare(got.Entries, given.Slots) {
				t.Fatal(name, "answers memory of its dict:", dictTold(d))
			}
			if listsShare(got.Slots, got.Entries) {
				t.Fatal(name, "answers lists that share memory:", dictTold(d))
			}
		}
	}
}

func TestP20NewDictsShareNothing(t *testing.T) {
	a, b := impl.NewDict(), impl.NewDict()
	if listsShare(a.Slots, b.Slots) || listsShare(a.Entries, b.Entries) || listsShare(a.Slots, a.Entries) {
		t.Error("new dicts share memory")
	}
	overwriteDict(a)
	wantDict(t, b, ". . . . . . . . |", "the other one")
	wantDict(t, impl.NewDict(), ". . . . . . . . |", "a later one")
}

// TestP20DictsFromDicts puts into one dict twice: neither of what comes of it
// knows of the other.
func TestP20DictsFromDicts(t *testing.T) {
	d := putAll(t, impl.NewDict(), 1, 1, 2, 2)
	a := putAll(t, d, 3, 3)
	b := putAll(t, d, 4, 4)
	c := cutAll(t, d, 1, 1)
	wantDict(t, d, ". 0 1 . . . . . | 1:1=10 2:2=20", "the first one")
	wantDict(t, a, ". 0 1 2 . . . . | 1:1=10 2:2=20 3:3=30", "with 3")
	wantDict(t, b, ". 0 1 . 2 . . . | 1:1=10 2:2=20 4:4=40", "with 4")
	wantDict(t, c, ". 0 1 . . . . . | 1:gone 2:2=20", "without 1")
}

func TestP20RunsTheSameTwice(t *testing.T) {
	spare := impl.DictOp{Kind: 9, Hash: 9, Key: 9, Val: 9}
	for i := range 300 {
		r := rand.New(rand.NewSource(int64(i)))
		ops := drawnOps(r, r.Intn(100))
		if i == 0 {
			ops = make([]impl.DictOp, impl.MaxDictOps+1)
		}
		given := spared(ops, spare)
		first := impl.DictRun(given)
		kept := slices.Clone(first)
		if !isSpared(given, ops, spare) || listsShare(first, given) {
			t.Fatal("DictRun writes into its operations, or answers them")
		}
		second := impl.DictRun(slices.Clone(ops))
		for k := range first[:cap(first)] {
			first[:cap(first)][k] = -77
		}
		if !slices.Equal(second, kept) || !slices.Equal(impl.DictRun(given), kept) || listsShare(first, second) {
			t.Fatal("DictRun answers otherwise the second time")
		}
	}
}
