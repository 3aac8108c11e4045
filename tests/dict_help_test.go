package tests

import (
	"slices"
	"strconv"
	"strings"
	"testing"

	"loop.example/g00009/impl"
)

// slotsByRule goes through the slots of a hash, of n, with all numbers kept below
// n: nothing can wrap round.
func slotsByRule(hash uint64, n int, f func(slot int) bool) {
	slot := int(hash % uint64(n))
	for moved := 5; f(slot); moved += 5 {
		rest := uint64(0)
		if moved < 64 {
			rest = hash >> moved
		}
		slot = (5*slot + 1 + int(rest%uint64(n))) % n
	}
}

// firstSlots are the first k slots of a hash.
func firstSlots(hash uint64, n int, k int) []int64 {
	out := []int64{}
	slotsByRule(hash, n, func(slot int) bool {
		out = append(out, int64(slot))
		return len(out) < k
	})
	return out
}

// plainDict is chapter 7 a second time: a list of entries and a number of slots,
// of which nothing is kept.
type plainDict struct {
	size    int
	entries []impl.DEntry
}

func newPlain() *plainDict { return &plainDict{size: 8} }

func (p *plainDict) live() int {
	n := 0
	for _, e := range p.entries {
		if !e.Gone {
			n++
		}
	}
	return n
}

func (p *plainDict) place(hash uint64, key int64) int {
	return slices.IndexFunc(p.entries, func(e impl.DEntry) bool { return !e.Gone && e.Hash == hash && e.Key == key })
}

func (p *plainDict) put(hash uint64, key int64, val int64) bool {
	if at := p.place(hash, key); at >= 0 {
		p.entries[at].Val = val
		return true
	}
	if len(p.entries) == p.size*2/3 {
		size := 8
		for size <= 3*p.live() {
			size += size
		}
		if size > 65536 {
			return false
		}
		kept := []impl.DEntry{}
		for _, e := range p.entries {
			if !e.Gone {
				kept = append(kept, e)
			}
		}
		p.size, p.entries = size, kept
	}
	p.entries = append(p.entries, impl.DEntry{Hash: hash, Key: key, Val: val})
	return true
}

func (p *plainDict) cut(hash uint64, key int64) bool {
	at := p.place(hash, key)
	if at < 0 {
		return false
	}
	p.entries[at] = impl.DEntry{Hash: hash, Gone: true}
	return true
}

// dict is the Dict that the functions ought to answer.
func (p *plainDict) dict() impl.Dict {
	return laidDict(p.size, p.entries...)
}

// looksByRule is how many slots of d are looked at for a key.
func looksByRule(d impl.Dict, hash uint64, key int64) int64 {
	looks := int64(0)
	slotsByRule(hash, len(d.Slots), func(slot int) bool {
		looks++
		at := d.Slots[slot]
		return at >= 0 && (d.Entries[at].Gone || d.Entries[at].Hash != hash || d.Entries[at].Key != key)
	})
	return looks
}

// laidDict is the dict of entries that are put into n slots one after the other,
// as many as they are: more than there ought to be too, up to n.
func laidDict(n int, entries ...impl.DEntry) impl.Dict {
	d := impl.Dict{Slots: slices.Repeat([]int64{-1}, n), Entries: slices.Clone(entries)}
	for i, e := range entries {
		slotsByRule(e.Hash, n, func(slot int) bool {
			if d.Slots[slot] >= 0 {
				return true
			}
			d.Slots[slot] = int64(i)
			return false
		})
		if !e.Gone {
			d.Live++
		}
	}
	return d
}

// okByRule is DictOk, said thing by thing: an entry's slot is the first of its
// row that an earlier entry has not taken.
func okByRule(d impl.Dict) bool {
	n := len(d.Slots)
	if !slices.Contains([]int{8, 16, 32, 64, 128, 256, 512, 1024, 2048, 4096, 8192, 16384, 32768, 65536}, n) || 3*len(d.Entries) > 2*n {
		return false
	}
	used := make([]int, len(d.Entries))
	for _, at := range d.Slots {
		if at < -1 || at >= int64(len(d.Entries)) {
			return false
		}
		if at >= 0 {
			used[at]++
		}
	}
	live := int64(0)
	for i, e := range d.Entries {
		if used[i] != 1 || e.Gone && (e.Key != 0 || e.Val != 0) || !isInItsSlot(d, i) {
			return false
		}
		if !e.Gone {
			live++
		}
		for _, other := range d.Entries[:i] {
			if !e.Gone && !other.Gone && e.Hash == other.Hash && e.Key == other.Key {
				return false
			}
		}
	}
	return live == d.Live
}

func isInItsSlot(d impl.Dict, i int) bool {
	found := false
	slotsByRule(d.Entries[i].Hash, len(d.Slots), func(slot int) bool {
		found = d.Slots[slot] == int64(i)
		return d.Slots[slot] >= 0 && d.Slots[slot] < int64(i)
	})
	return found
}

func sameDict(a impl.Dict, b impl.Dict) bool {
	return slices.Equal(a.Slots, b.Slots) && slices.Equal(a.Entries, b.Entries) && a.Live == b.Live
}

func isNoDict(d impl.Dict) bool { return len(d.Slots) == 0 && len(d.Entries) == 0 && d.Live == 0 }

func copyDict(d impl.Dict) impl.Dict {
	return impl.Dict{Slots: slices.Clone(d.Slots), Entries: slices.Clone(d.Entries), Live: d.Live}
}

// dictTold writes a dict's slots and entries, HASH:KEY=VAL or HASH:gone.
func dictTold(d impl.Dict) string {
	words := []string{}
	for _, at := range d.Slots {
		words = append(words, strings.Replace(strconv.FormatInt(at, 10), "-1", ".", 1))
	}
	words = append(words, "|")
	for _, e := range d.Entries {
		word := strconv.FormatUint(e.Hash, 10) + ":"
		if e.Gone {
			word += "gone"
		}
		if !e.Gone || e.Key != 0 || e.Val != 0 {
			word += strconv.FormatInt(e.Key, 10) + "=" + strconv.FormatInt(e.Val, 10)
		}
		words = append(words, word)
	}
	return strings.Join(words, " ")
}

func wantDict(t *testing.T, d impl.Dict, want string, what ...any) {
	t.Helper()
	if got := dictTold(d); got != want {
		t.Errorf("%v: the dict is\n%s, not\n%s", what, got, want)
	}
	live := int64(0)
	for _, e := range d.Entries {
		if !e.Gone {
			live++
		}
	}
	if d.Live != live || !impl.DictOk(d) {
		t.Error(what, "a dict that is none:", dictTold(d), d.Live, impl.DictOk(d))
	}
}

func wantFound(t *testing.T, d impl.Dict, hash uint64, key int64, at int64, looks int64) {
	t.Helper()
	if a, n := impl.DictFind(d, hash, key); a != at || n != looks {
		t.Errorf("%d:%d is found at %d with %d looks, not at %d with %d: %s", hash, key, a, n, at, looks, dictTold(d))
	}
}

// putAll puts pairs of a hash and a key one by one, each with the Val 10 times
// its key.
func putAll(t *testing.T, d impl.Dict, pairs ...int64) impl.Dict {
	t.Helper()
	for i := 0; i+1 < len(pairs); i += 2 {
		next, ok := impl.DictPut(d, uint64(pairs[i]), pairs[i+1], 10*pairs[i+1])
		if !ok {
			t.Fatal("not put:", pairs[i], pairs[i+1], dictTold(d))
		}
		d = next
	}
	return d
}

func cutAll(t *testing.T, d impl.Dict, pairs ...int64) impl.Dict {
	t.Helper()
	for i := 0; i+1 < len(pairs); i += 2 {
		next, ok := impl.DictCut(d, uint64(pairs[i]), pairs[i+1])
		if !ok {
			t.Fatal("not cut:", pairs[i], pairs[i+1], dictTold(d))
		}
		d = next
	}
	return d
}

// numberedEntries are n entries with hashes by the rule, keys 0, 1 .. and Vals of their
// own; those that gone tells are Gone.
func numberedEntries(n int, hash func(i int) uint64, gone func(i int) bool) []impl.DEntry {
	out := make([]impl.DEntry, n)
	for i := range out {
		out[i] = impl.DEntry{Hash: hash(i), Key: int64(i), Val: int64(1000 + i)}
		if gone(i) {
			out[i] = impl.DEntry{Hash: hash(i), Gone: true}
		}
	}
	return out
}

func noneGone(int) bool { return false }

func spread(i int) uint64 { return uint64(i) * 0x9e3779b97f4a7c15 }

func oneHash(int) uint64 { return 77 }
