package tests

import (
	"math"
	"testing"

	"loop.example/g00009/impl"
)

func TestP7PutWhereThereIsRoom(t *testing.T) {
	d := putAll(t, impl.NewDict(), 1, 1, 2, 2, 3, 3, 4, 4)
	wantDict(t, d, ". 0 1 2 3 . . . | 1:1=10 2:2=20 3:3=30 4:4=40", "one ahead of 2/3")
	d = putAll(t, d, 5, 5)
	wantDict(t, d, ". 0 1 2 3 4 . . | 1:1=10 2:2=20 3:3=30 4:4=40 5:5=50", "at 2/3")
	d, ok := impl.DictPut(d, 3, 3, -7)
	wantDict(t, d, ". 0 1 2 3 4 . . | 1:1=10 2:2=20 3:3=-7 4:4=40 5:5=50", "replaced at 2/3", ok)
	if !ok {
		t.Error("replaced, and false")
	}
	d = putAll(t, d, 6, 6)
	wantDict(t, d, ". 0 1 2 3 4 5 . . . . . . . . . | 1:1=10 2:2=20 3:3=-7 4:4=40 5:5=50 6:6=60", "made anew, larger")
}

func TestP7PutWhereOneIsGone(t *testing.T) {
	full := putAll(t, impl.NewDict(), 1, 1, 2, 2, 3, 3, 4, 4, 5, 5)
	wantDict(t, putAll(t, cutAll(t, full, 2, 2), 6, 6), ". 0 . 1 2 3 4 . . . . . . . . . | 1:1=10 3:3=30 4:4=40 5:5=50 6:6=60", "four live: 16 slots")
	wantDict(t, putAll(t, cutAll(t, full, 2, 2, 4, 4), 6, 6), ". 0 . 1 . 2 3 . . . . . . . . . | 1:1=10 3:3=30 5:5=50 6:6=60", "three live: 16 slots")
	wantDict(t, putAll(t, cutAll(t, full, 2, 2, 4, 4, 1, 1), 6, 6), ". . . 0 . 1 2 . | 3:3=30 5:5=50 6:6=60", "two live: as large as it was")
	wantDict(t, putAll(t, cutAll(t, full, 1, 1, 2, 2, 3, 3, 4, 4, 5, 5), 3, 3), ". . . 0 . . . . | 3:3=30", "none live: as large as it was")
	wantDict(t, putAll(t, cutAll(t, full, 3, 3), 3, 3), ". 0 1 4 2 3 . . . . . . . . . . | 1:1=10 2:2=20 4:4=40 5:5=50 3:3=30", "the one that was cut")
	wantDict(t, putAll(t, cutAll(t, putAll(t, impl.NewDict(), 1, 1, 2, 2), 1, 1), 1, 1), ". 0 1 . . . 2 . | 1:gone 2:2=20 1:1=10", "the one that was cut, with room")
}

func TestP7PutMakesSmaller(t *testing.T) {
	d := impl.NewDict()
	for i := range int64(11) {
		d = putAll(t, d, i, i)
	}
	if len(d.Slots) != 32 {
		t.Fatal("eleven entries:", len(d.Slots))
	}
	for i := int64(11); i < 21; i++ {
		d = putAll(t, d, i, i)
	}
	for i := range int64(16) {
		d = cutAll(t, d, i, i)
	}
	if len(d.Slots) != 32 || len(d.Entries) != 21 || d.Live != 5 {
		t.Fatal("sixteen of 21 cut:", len(d.Slots), len(d.Entries), d.Live)
	}
	wantDict(t, putAll(t, d, 40, 40), "0 1 2 3 4 . . . 5 . . . . . . . | 16:16=160 17:17=170 18:18=180 19:19=190 20:20=200 40:40=400", "smaller")
	wantDict(t, putAll(t, cutAll(t, d, 16, 16, 18, 18, 20, 20), 40, 40), "2 0 . 1 . . . . | 17:17=170 19:19=190 40:40=400", "the least size")
	wantDict(t, putAll(t, cutAll(t, d, 16, 16, 18, 18, 20, 20, 17, 17, 19, 19), 40, 40), "0 . . . . . . . | 40:40=400", "of none")
}

// TestP7PutSizes has a full table of each size with each number of live entries
// that lies at a power of two by three.
func TestP7PutSizes(t *testing.T) {
	for size := 8; size <= 65536; size *= 2 {
		most := size * 2 / 3
		for power := 4; power <= 4*size; power *= 2 {
			for _, live := range []int{power/3 - 1, power / 3, power/3 + 1, most} {
				if live >= 0 && live <= most {
					wantMadeAnew(t, size, live)
				}
			}
		}
	}
}

func wantMadeAnew(t *testing.T, size int, live int) {
	t.Helper()
	p := &plainDict{size: size, entries: numberedEntries(size*2/3, spread, func(i int) bool { return i >= live })}
	d := p.dict()
	hash := spread(1 << 20)
	got, ok := impl.DictPut(d, hash, -1, 6)
	done := p.put(hash, -1, 6)
	if ok != done || !sameDict(got, p.dict()) {
		t.Error("made anew otherwise:", size, live, ok, len(got.Slots), len(got.Entries), p.size)
	}
	if ok != (live <= 21845) || ok && (len(got.Slots) <= 3*live || len(got.Slots) > 8 && len(got.Slots)/2 > 3*live) {
		t.Error("another size:", size, live, ok, len(got.Slots))
	}
	if !ok && !sameDict(got, d) {
		t.Error("no room, and another dict:", size, live)
	}
}

func TestP7PutBeyondMaxSlots(t *testing.T) {
	wantMadeAnew(t, 65536, 21845)
	wantMadeAnew(t, 65536, 21846)
	wantMadeAnew(t, 65536, 43690)
	wantMadeAnew(t, 32768, 21845)
	full := laidDict(65536, numberedEntries(43690, spread, noneGone)...)
	got, ok := impl.DictPut(full, spread(7), 7, -3)
	if !ok || got.Entries[7].Val != -3 || len(got.Entries) != 43690 || len(got.Slots) != 65536 {
		t.Error("a key that is there needs no room:", ok, len(got.Entries))
	}
	if got, ok := impl.DictPut(full, spread(7), 8, -3); ok || !sameDict(got, full) {
		t.Error("there is no room, and it is put:", ok)
	}
	almost := laidDict(65536, numberedEntries(43689, spread, noneGone)...)
	got, ok = impl.DictPut(almost, spread(43689), 43689, 1000+43689)
	if !ok || !sameDict(got, full) {
		t.Error("the last one that there is room for:", ok, len(got.Entries))
	}
	for i := range 21845 {
		e := &full.Entries[i]
		*e = impl.DEntry{Hash: e.Hash, Gone: true}
	}
	full.Live = 21845
	if got, ok := impl.DictPut(full, 5, 5, 5); !ok || len(got.Slots) != 65536 || len(got.Entries) != 21846 || !impl.DictOk(got) {
		t.Error("half of it is gone: there is room", ok, len(got.Slots))
	}
}

// TestP7PutOneHashAnew makes tables anew of which all entries have one hash.
func TestP7PutOneHashAnew(t *testing.T) {
	for size := 8; size <= 2048; size *= 2 {
		for _, gone := range []func(i int) bool{noneGone, func(i int) bool { return i%2 == 0 }, func(i int) bool { return i > 2 }} {
			p := &plainDict{size: size, entries: numberedEntries(size*2/3, oneHash, gone)}
			got, ok := impl.DictPut(p.dict(), 77, -1, 6)
			if !p.put(77, -1, 6) || !ok || !sameDict(got, p.dict()) {
				t.Error("made anew otherwise:", size, ok, len(got.Slots))
			}
			wantFound(t, got, 77, -1, got.Live-1, looksByRule(got, 77, -1))
		}
	}
}

func TestP7Cut(t *testing.T) {
	d := putAll(t, impl.NewDict(), 3, 1, 11, 2, 19, 3)
	for _, c := range [][2]int64{{3, 2}, {11, 1}, {19, 1}, {27, 1}, {4, 1}, {-1, 1}, {3, 0}} {
		got, ok := impl.DictCut(d, uint64(c[0]), c[1])
		if ok || !sameDict(got, d) {
			t.Error("what is not there is cut:", c, dictTold(got))
		}
	}
	d = cutAll(t, d, 11, 2)
	wantDict(t, d, "1 2 . 0 . . . . | 3:1=10 11:gone 19:3=30", "cut")
	if got, ok := impl.DictCut(d, 11, 2); ok || !sameDict(got, d) {
		t.Error("cut twice:", dictTold(got))
	}
	if got, ok := impl.DictCut(d, 11, 0); ok || !sameDict(got, d) {
		t.Error("a gone one is cut as key 0:", dictTold(got))
	}
	wantFound(t, d, 19, 3, 2, 3)
	d = cutAll(t, d, 3, 1, 19, 3)
	wantDict(t, d, "1 2 . 0 . . . . | 3:gone 11:gone 19:gone", "all cut")
	d = cutAll(t, putAll(t, d, 11, 2), 11, 2)
	wantDict(t, d, "1 2 . 0 . . 3 . | 3:gone 11:gone 19:gone 11:gone", "put and cut again")
	e, ok := impl.DictCut(impl.NewDict(), 0, 0)
	wantDict(t, e, ". . . . . . . . |", "nothing to cut", ok)
	if ok {
		t.Error("cut from nothing")
	}
	zero := cutAll(t, putAll(t, impl.NewDict(), 0, 0), 0, 0)
	wantDict(t, zero, "0 . . . . . . . | 0:gone", "the key 0")
	wantFound(t, zero, 0, 0, -1, 2)
	wantDict(t, putAll(t, zero, 0, 0), "0 1 . . . . . . | 0:gone 0:0=0", "the key 0 again")
}

func TestP7CutDoesNotMakeAnew(t *testing.T) {
	d := laidDict(65536, numberedEntries(43690, spread, func(i int) bool { return i > 0 })...)
	got, ok := impl.DictCut(d, spread(0), 0)
	if !ok || len(got.Slots) != 65536 || len(got.Entries) != 43690 || got.Live != 0 || !impl.DictOk(got) {
		t.Error("cut:", ok, len(got.Slots), len(got.Entries), got.Live)
	}
	if got, ok := impl.DictPut(got, math.MaxUint64, 1, 1); !ok || len(got.Slots) != 8 || len(got.Entries) != 1 {
		t.Error("put into a table of gone ones:", ok, len(got.Slots), len(got.Entries))
	}
}
