package tests

import (
	"math"
	"math/rand"
	"slices"
	"testing"

	"loop.example/g00009/impl"
)

func put(hash uint64, key int64, val int64) impl.DictOp {
	return impl.DictOp{Kind: impl.DictOpPut, Hash: hash, Key: key, Val: val}
}

func opOf(kind int64, hash uint64, key int64) impl.DictOp {
	return impl.DictOp{Kind: kind, Hash: hash, Key: key}
}

func wantRun(t *testing.T, ops []impl.DictOp, want ...int64) {
	t.Helper()
	if got := impl.DictRun(ops); !slices.Equal(got, want) {
		t.Errorf("%v answer\n%v, not\n%v", ops, got, want)
	}
}

func TestP7RunKinds(t *testing.T) {
	const get, cut, look, size = impl.DictOpGet, impl.DictOpCut, impl.DictOpLook, impl.DictOpSize
	wantRun(t, nil)
	wantRun(t, []impl.DictOp{})
	wantRun(t, []impl.DictOp{put(3, 1, 10), opOf(get, 3, 1), put(3, 1, 11), opOf(get, 3, 1)}, 1, 10, 1, 11)
	wantRun(t, []impl.DictOp{opOf(get, 3, 1), opOf(cut, 3, 1), opOf(look, 3, 1), opOf(size, 3, 1)}, -1, 0, 1, 8)
	wantRun(t, []impl.DictOp{put(3, 1, 10), put(11, 2, 20), opOf(look, 3, 1), opOf(look, 11, 2), opOf(look, 11, 1)}, 1, 1, 1, 2, 3)
	wantRun(t, []impl.DictOp{put(3, 1, 10), opOf(cut, 3, 1), opOf(cut, 3, 1), opOf(get, 3, 1), opOf(look, 3, 1)}, 1, 1, 0, -1, 2)
	wantRun(t, []impl.DictOp{put(3, 1, -1), put(3, 2, -2), opOf(get, 3, 1), opOf(get, 3, 2)}, 1, 1, -1, -2)
	wantRun(t, []impl.DictOp{put(3, 0, 9), opOf(cut, 3, 0), opOf(get, 3, 0), put(3, 0, 8), opOf(get, 3, 0), opOf(look, 3, 0)}, 1, 1, -1, 1, 8, 2)
	wantRun(t, []impl.DictOp{put(math.MaxUint64, math.MinInt64, math.MaxInt64), opOf(get, math.MaxUint64, math.MinInt64)}, 1, math.MaxInt64)
}

func TestP7RunOtherKinds(t *testing.T) {
	for _, kind := range []int64{0, -1, -2, 6, 7, 100, 1 + 1<<32, math.MinInt64, math.MaxInt64} {
		op := impl.DictOp{Kind: kind, Hash: 3, Key: 1, Val: 5}
		wantRun(t, []impl.DictOp{op}, -2)
		wantRun(t, []impl.DictOp{op, put(3, 1, 10), op, opOf(impl.DictOpGet, 3, 1), opOf(impl.DictOpSize, 0, 0), op}, -2, 1, -2, 10, 8, -2)
	}
}

func TestP7RunSizes(t *testing.T) {
	ops := []impl.DictOp{}
	want := []int64{}
	sizes := map[int64]int64{6: 16, 11: 32, 22: 64, 43: 128, 86: 256, 171: 512, 342: 1024, 683: 2048, 1366: 4096}
	now := int64(8)
	for i := range int64(2500) {
		ops = append(ops, put(spread(int(i)), i, i), opOf(impl.DictOpSize, 0, 0))
		now = max(now, sizes[i+1])
		want = append(want, 1, now)
	}
	wantRun(t, ops, want...)
}

func TestP7RunLimit(t *testing.T) {
	ops := make([]impl.DictOp, impl.MaxDictOps+1)
	for i := range ops {
		ops[i] = put(uint64(i), int64(i), int64(i))
	}
	if got := impl.DictRun(ops); len(got) != 0 {
		t.Error("5001 operations:", len(got))
	}
	if got := impl.DictRun(make([]impl.DictOp, 100000)); len(got) != 0 {
		t.Error("100000 operations:", len(got))
	}
	wantRun(t, ops[1:], slices.Repeat([]int64{1}, impl.MaxDictOps)...)
	wantRun(t, make([]impl.DictOp, impl.MaxDictOps), slices.Repeat([]int64{-2}, impl.MaxDictOps)...)
	same := slices.Clone(ops[1:])
	for i := range same {
		same[i].Hash = 1 << 63
	}
	same[4999] = opOf(impl.DictOpGet, 1<<63, 4999)
	wantRun(t, same, append(slices.Repeat([]int64{1}, 4999), 4999)...)
}

// pair is a thing of a plain list that keeps the order of insertion.
type pair struct {
	hash uint64
	key  int64
	val  int64
}

// listAnswers runs puts, gets and cuts on a list of pairs, which knows of no
// slots; others are answered by -9.
func listAnswers(ops []impl.DictOp) ([]int64, []pair) {
	list := []pair{}
	out := []int64{}
	for _, op := range ops {
		at := slices.IndexFunc(list, func(p pair) bool { return p.hash == op.Hash && p.key == op.Key })
		answer := int64(-9)
		switch {
		case op.Kind == impl.DictOpPut && at >= 0:
			list[at].val, answer = op.Val, 1
		case op.Kind == impl.DictOpPut:
			list, answer = append(list, pair{hash: op.Hash, key: op.Key, val: op.Val}), 1
		case op.Kind == impl.DictOpGet && at >= 0:
			answer = list[at].val
		case op.Kind == impl.DictOpGet:
			answer = -1
		case op.Kind == impl.DictOpCut && at >= 0:
			list, answer = slices.Delete(list, at, at+1), 1
		case op.Kind == impl.DictOpCut:
			answer = 0
		}
		out = append(out, answer)
	}
	return out, list
}

// drawnOps are operations on few or many keys, with more puts than cuts or fewer.
func drawnOps(r *rand.Rand, n int) []impl.DictOp {
	keys, hashes := 1+r.Intn(1+n/4), 1+r.Intn(60)
	kind := func(i int) uint64 { return spread(i) }
	switch r.Intn(4) {
	case 0:
		kind = func(i int) uint64 { return uint64(i) }
	case 1:
		kind = func(i int) uint64 { return uint64(i) << 59 }
	case 2:
		kind = func(i int) uint64 { return uint64(i) * 64 }
	}
	puts := 1 + r.Intn(4)
	out := make([]impl.DictOp, n)
	for i := range out {
		if i%(n/3+1) == 0 {
			puts = 1 + r.Intn(4)
		}
		op := impl.DictOp{Kind: int64(1 + r.Intn(5)), Hash: kind(r.Intn(hashes)), Key: int64(r.Intn(keys)) - 2, Val: int64(r.Intn(1000))}
		if r.Intn(6) < puts {
			op.Kind = impl.DictOpPut
		} else if r.Intn(3) == 0 {
			op.Kind = impl.DictOpCut
		}
		out[i] = op
	}
	return out
}

// wantRunByTheRule holds DictRun against the plain list and the plain dict, and
// the functions that take a dict against DictRun.
func wantRunByTheRule(t *testing.T, ops []impl.DictOp) string {
	got := impl.DictRun(ops)
	want, list := listAnswers(ops)
	p := newPlain()
	d := impl.NewDict()
	for i, op := range ops {
		at, looks := impl.DictFind(d, op.Hash, op.Key)
		switch op.Kind {
		case impl.DictOpPut:
			d, _ = impl.DictPut(d, op.Hash, op.Key, op.Val)
			p.put(op.Hash, op.Key, op.Val)
		case impl.DictOpCut:
			d, _ = impl.DictCut(d, op.Hash, op.Key)
			p.cut(op.Hash, op.Key)
		case impl.DictOpGet:
			if at >= 0 && d.Entries[at].Val != want[i] || at < 0 && want[i] != -1 {
				t.Error("another entry is found:", at, want[i], ops)
			}
		case impl.DictOpLook:
			want[i] = looks
			if looks != looksByRule(d, op.Hash, op.Key) {
				t.Error("looks:", looks, op, dictTold(d))
			}
		case impl.DictOpSize:
			want[i] = int64(p.size)
			if !sameDict(d, p.dict()) {
				t.Error("another dict:", dictTold(d), dictTold(p.dict()))
			}
		}
	}
	if !slices.Equal(got, want) {
		t.Errorf("DictRun answers %v, not %v: %v", got, want, ops)
	}
	live := []pair{}
	for _, e := range d.Entries {
		if !e.Gone {
			live = append(live, pair{hash: e.Hash, key: e.Key, val: e.Val})
		}
	}
	if !slices.Equal(live, list) || int64(len(list)) != d.Live || !sameDict(d, p.dict()) {
		t.Error("the entries are not those of the list:", live, list)
	}
	return "run"
}

func TestP7RunsOfOperations(t *testing.T) {
	inParallel(6000, func(i int) string {
		r := rand.New(rand.NewSource(int64(i)))
		return wantRunByTheRule(t, drawnOps(r, r.Intn(80)))
	})
	inParallel(200, func(i int) string {
		r := rand.New(rand.NewSource(int64(i) + 90000))
		return wantRunByTheRule(t, drawnOps(r, 300+r.Intn(400)))
	})
}

// TestP7LongRuns has as many operations as there may be, against the list alone.
func TestP7LongRuns(t *testing.T) {
	inParallel(48, func(i int) string {
		r := rand.New(rand.NewSource(int64(i) + 50000))
		ops := drawnOps(r, impl.MaxDictOps)
		got := impl.DictRun(ops)
		want, _ := listAnswers(ops)
		p := newPlain()
		for k, op := range ops {
			switch op.Kind {
			case impl.DictOpPut:
				p.put(op.Hash, op.Key, op.Val)
			case impl.DictOpCut:
				p.cut(op.Hash, op.Key)
			case impl.DictOpLook:
				want[k] = got[k]
				if k%40 == 0 {
					want[k] = looksByRule(p.dict(), op.Hash, op.Key)
				}
			case impl.DictOpSize:
				want[k] = int64(p.size)
			}
		}
		if !slices.Equal(got, want) {
			t.Error("a long run answers otherwise:", i)
		}
		return "run"
	})
}

// TestP7AllShortRuns has each row of six operations on three keys, two of one hash.
func TestP7AllShortRuns(t *testing.T) {
	const get, cut, look, size = impl.DictOpGet, impl.DictOpCut, impl.DictOpLook, impl.DictOpSize
	kinds := []impl.DictOp{put(3, 1, 5), put(3, 0, 6), put(11, 1, 7), opOf(cut, 3, 1), opOf(cut, 3, 0), opOf(cut, 11, 1)}
	ends := []impl.DictOp{opOf(get, 3, 1), opOf(look, 3, 1), opOf(get, 3, 0), opOf(look, 3, 0), opOf(get, 11, 1), opOf(look, 11, 1), opOf(size, 0, 0)}
	n := 6 * 6 * 6 * 6 * 6 * 6
	inParallel(n, func(i int) string {
		ops := []impl.DictOp{}
		for range 6 {
			ops = append(ops, kinds[i%6])
			i /= 6
		}
		return wantRunByTheRule(t, append(ops, ends...))
	})
}

// TestP7ManyThenFew fills a dict by DictPut, cuts nearly all of it, and fills it
// again: what is in it is found on the way.
func TestP7ManyThenFew(t *testing.T) {
	d := impl.NewDict()
	p := newPlain()
	step := func(ok bool, done bool, next impl.Dict) {
		if ok != done || !sameDict(next, p.dict()) {
			t.Fatal("another dict:", len(next.Entries), len(next.Slots), p.size)
		}
		d = next
	}
	for turn := range 3 {
		for i := range 400 {
			next, ok := impl.DictPut(d, spread(i), int64(i), int64(turn))
			step(ok, p.put(spread(i), int64(i), int64(turn)), next)
		}
		for i := range 395 {
			k := i * 7 % 400
			next, ok := impl.DictCut(d, spread(k), int64(k))
			step(ok, p.cut(spread(k), int64(k)), next)
		}
	}
	if d.Live != 5 {
		t.Error("live:", d.Live)
	}
	for i := range 400 {
		at, looks := impl.DictFind(d, spread(i), int64(i))
		if at != int64(p.place(spread(i), int64(i))) || looks != looksByRule(d, spread(i), int64(i)) {
			t.Error("found otherwise:", i, at, looks)
		}
	}
}
