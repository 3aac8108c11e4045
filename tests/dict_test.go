package tests

import (
	"math"
	"slices"
	"testing"

	"loop.example/g00009/impl"
)

func TestP7NewDict(t *testing.T) {
	wantDict(t, impl.NewDict(), ". . . . . . . . |", "NewDict")
	for _, hash := range []uint64{0, 7, 8, math.MaxUint64} {
		wantFound(t, impl.NewDict(), hash, 0, -1, 1)
	}
}

func TestP7Ordinary(t *testing.T) {
	d := putAll(t, impl.NewDict(), 3, 1, 11, 2, 4, 3)
	wantDict(t, d, "1 . . 0 2 . . . | 3:1=10 11:2=20 4:3=30", "put")
	wantFound(t, d, 3, 1, 0, 1)
	wantFound(t, d, 11, 2, 1, 2)
	wantFound(t, d, 4, 3, 2, 1)
	wantFound(t, d, 3, 2, -1, 3)
	wantFound(t, d, 11, 1, -1, 3)
	wantFound(t, d, 19, 1, -1, 3)
	wantFound(t, d, 4, 1, -1, 2)
	wantFound(t, d, 5, 3, -1, 1)
	wantFound(t, d, 0, 2, -1, 2)
	d, ok := impl.DictPut(d, 11, 2, -5)
	wantDict(t, d, "1 . . 0 2 . . . | 3:1=10 11:2=-5 4:3=30", "replaced", ok)
	d = cutAll(t, d, 3, 1)
	wantDict(t, d, "1 . . 0 2 . . . | 3:gone 11:2=-5 4:3=30", "cut")
	wantFound(t, d, 3, 1, -1, 3)
	wantFound(t, d, 3, 0, -1, 3)
	wantFound(t, d, 11, 2, 1, 2)
	d = putAll(t, d, 3, 1)
	wantDict(t, d, "1 3 . 0 2 . . . | 3:gone 11:2=-5 4:3=30 3:1=10", "put behind")
	wantFound(t, d, 3, 1, 3, 3)
}

// TestP7SlotsOfAHash has rows of slots written out in numbers: entries
// of one hash take its slots one after the other, but those that they have.
func TestP7SlotsOfAHash(t *testing.T) {
	list := []struct {
		hash uint64
		size int
		row  []int64
	}{
		{0, 8, []int64{0, 1, 6, 7, 4, 5, 2, 3, 0, 1}},
		{1, 8, []int64{1, 6, 7, 4, 5, 2, 3, 0, 1, 6}},
		{7, 8, []int64{7, 4, 5, 2, 3, 0, 1, 6, 7, 4}},
		{8, 8, []int64{0, 1, 6, 7, 4, 5, 2, 3, 0, 1}},
		{9, 8, []int64{1, 6, 7, 4, 5, 2, 3, 0, 1, 6}},
		{31, 8, []int64{7, 4, 5, 2, 3, 0, 1, 6, 7, 4}},
		{32, 8, []int64{0, 2, 3, 0, 1, 6, 7, 4, 5, 2}},
		{33, 8, []int64{1, 7, 4, 5, 2, 3, 0, 1, 6, 7}},
		{1023, 8, []int64{7, 3, 0, 1, 6, 7, 4, 5, 2, 3}},
		{1024, 8, []int64{0, 1, 7, 4, 5, 2, 3, 0, 1, 6}},
		{32768, 8, []int64{0, 1, 6, 0, 1, 6, 7, 4, 5, 2}},
		{1<<64 - 1, 8, []int64{7, 3, 7, 3, 7, 3, 7, 3, 7, 3, 7, 3, 7, 4, 5, 2, 3}},
		{1<<64 - 8, 8, []int64{0, 0, 0, 0, 0, 0, 0, 0, 0, 0, 0, 0, 0, 1, 6, 7, 4}},
		{0xf000000000000001, 8, []int64{1, 6, 7, 4, 5, 2, 3, 0, 1, 6, 7, 4, 4, 5, 2, 3, 0}},
		{0x123456789abcdef0, 8, []int64{0, 0, 0, 2, 6, 4, 7, 3, 6, 1, 3, 4, 6, 7, 4, 5, 2}},
		{0, 16, []int64{0, 1, 6, 15, 12, 13, 2, 11, 8, 9, 14, 7, 4, 5, 10, 3, 0}},
		{15, 16, []int64{15, 12, 13, 2, 11, 8, 9, 14, 7, 4, 5, 10, 3, 0, 1, 6, 15}},
		{16, 16, []int64{0, 1, 6, 15, 12, 13, 2, 11, 8, 9, 14, 7, 4, 5, 10, 3, 0}},
		{17, 16, []int64{1, 6, 15, 12, 13, 2, 11, 8, 9, 14, 7, 4, 5, 10, 3, 0, 1}},
		{80, 16, []int64{0, 3, 0, 1, 6, 15, 12, 13, 2, 11, 8, 9, 14, 7, 4, 5, 10}},
		{1 << 40, 16, []int64{0, 1, 6, 15, 12, 13, 2, 11, 9, 14, 7, 4, 5, 10, 3, 0, 1}},
		{1 << 60, 16, []int64{0, 1, 6, 15, 12, 13, 2, 11, 8, 9, 14, 7, 5, 10, 3, 0, 1}},
		{1 << 63, 16, []int64{0, 1, 6, 15, 12, 13, 2, 11, 8, 9, 14, 7, 12, 13, 2, 11, 8}},
		{1<<63 - 1, 16, []int64{15, 11, 7, 3, 15, 11, 7, 3, 15, 11, 7, 3, 7, 4, 5, 10, 3}},
		{1<<64 - 1, 16, []int64{15, 11, 7, 3, 15, 11, 7, 3, 15, 11, 7, 3, 15, 12, 13, 2, 11}},
		{1<<64 - 16, 16, []int64{0, 0, 0, 0, 0, 0, 0, 0, 0, 0, 0, 0, 0, 1, 6, 15, 12}},
		{1024, 64, []int64{0, 33, 39, 4, 21, 42, 19, 32, 33, 38, 63, 60, 45, 34, 43, 24, 57}},
		{1 << 63, 64, []int64{0, 1, 6, 31, 28, 13, 2, 11, 56, 25, 62, 55, 28, 13, 2, 11, 56}},
		{1<<64 - 65, 64, []int64{63, 57, 29, 17, 21, 41, 13, 1, 5, 25, 61, 49, 5, 26, 3, 16, 17}},
		{0x123456789abcdef0, 64, []int64{48, 40, 0, 58, 14, 20, 7, 51, 22, 17, 35, 20, 38, 63, 60, 45, 34}},
	}
	for _, c := range list {
		wantRow(t, c.hash, c.size, c.row)
	}
}

func wantRow(t *testing.T, hash uint64, size int, row []int64) {
	t.Helper()
	d := laidDict(size)
	for i, slot := range row {
		if slices.Contains(row[:i], slot) || len(d.Entries) == size*2/3 {
			continue
		}
		wantFound(t, d, hash, -1, -1, int64(i)+1)
		place := int64(len(d.Entries))
		next, ok := impl.DictPut(d, hash, place, 0)
		if !ok || next.Slots[slot] != place || !impl.DictOk(next) {
			t.Fatalf("%d of %d: the entry %d is not in slot %d: %v", hash, size, place, slot, next.Slots)
		}
		d = next
		wantFound(t, d, hash, place, place, int64(i)+1)
		if !slices.Equal(firstSlots(hash, size, i+1), row[:i+1]) {
			t.Fatal("the rule says otherwise:", hash, size, firstSlots(hash, size, i+1))
		}
	}
}

// hashEdges are hashes that lie at what the document and the machine count by.
func hashEdges(size uint64) []uint64 {
	out := []uint64{0, 1, 2, size / 2, size - 1, size, size + 1, 2 * size, 3*size + 1, math.MaxUint64, math.MaxUint64 - size, math.MaxInt64, math.MaxUint64 - size + 1}
	for bit := 0; bit < 64; bit++ {
		out = append(out, 1<<bit)
		if bit%5 == 0 {
			out = append(out, 1<<bit-1, 1<<bit+1, math.MaxUint64<<bit, 31<<bit)
		}
	}
	return out
}

// TestP7RowsByTheRule fills tables of each size with one hash, as far as there is
// room, or for larger ones as far as all of the hash has moved out.
func TestP7RowsByTheRule(t *testing.T) {
	for size := 8; size <= 65536; size *= 2 {
		for _, hash := range hashEdges(uint64(size)) {
			n := min(size*2/3, 24)
			if size > 256 {
				n = 16
			}
			d := laidDict(size, numberedEntries(n, func(int) uint64 { return hash }, noneGone)...)
			if !impl.DictOk(d) {
				t.Fatal("the rows are others:", hash, size)
			}
			if size > 1024 && hash%7 != 0 {
				continue
			}
			for key := int64(-1); key <= int64(n); key++ {
				at := key
				if key == int64(n) {
					at = -1
				}
				wantFound(t, d, hash, key, at, looksByRule(d, hash, key))
			}
		}
	}
}

// TestP7HashesOfOneSlot puts hashes that begin at one slot and go on by others.
func TestP7HashesOfOneSlot(t *testing.T) {
	d := impl.NewDict()
	p := newPlain()
	for i := range int64(40) {
		for _, hash := range []uint64{5, 5 + 1<<6, 5 + 1<<20, 5 + 1<<63} {
			next, ok := impl.DictPut(d, hash, i%3, i)
			if ok != p.put(hash, i%3, i) || !sameDict(next, p.dict()) {
				t.Fatalf("put %d:%d: %s, not %s", hash, i%3, dictTold(next), dictTold(p.dict()))
			}
			d = next
		}
		if i%4 == 3 {
			next, ok := impl.DictCut(d, 5+1<<20, i%3)
			if ok != p.cut(5+1<<20, i%3) || !sameDict(next, p.dict()) {
				t.Fatalf("cut %d: %s, not %s", i%3, dictTold(next), dictTold(p.dict()))
			}
			d = next
		}
	}
}

func TestP7FindHashesAndKeys(t *testing.T) {
	d := putAll(t, impl.NewDict(), 2, 1, 2, -1, 10, 1, 2, 0)
	wantDict(t, d, "2 3 0 1 . . . . | 2:1=10 2:-1=-10 10:1=10 2:0=0", "one slot")
	wantFound(t, d, 2, 1, 0, 1)
	wantFound(t, d, 2, -1, 1, 2)
	wantFound(t, d, 10, 1, 2, 3)
	wantFound(t, d, 2, 0, 3, 4)
	wantFound(t, d, 10, -1, -1, 5)
	wantFound(t, d, 2, 2, -1, 5)
	wantFound(t, d, 18, 1, -1, 5)
	wantFound(t, d, 3, -1, -1, 4)
	d = cutAll(t, d, 2, 0)
	wantFound(t, d, 2, 0, -1, 5)
	d = cutAll(t, d, 2, 1)
	wantFound(t, d, 2, 0, -1, 5)
	wantFound(t, d, 2, 1, -1, 5)
	wantFound(t, d, 2, -1, 1, 2)
	d = putAll(t, d, 2, 0)
	wantFound(t, d, 2, 0, 4, 5)
	for _, key := range []int64{math.MinInt64, math.MaxInt64} {
		e, ok := impl.DictPut(impl.NewDict(), math.MaxUint64, key, key)
		if !ok || e.Entries[0] != (impl.DEntry{Hash: math.MaxUint64, Key: key, Val: key}) {
			t.Error("an end of the numbers:", key, dictTold(e))
		}
		wantFound(t, e, math.MaxUint64, key, 0, 1)
		wantFound(t, e, math.MaxUint64, -1-key, -1, 2)
	}
}
