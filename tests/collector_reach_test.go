package tests

import (
	"math"
	"math/rand"
	"slices"
	"testing"

	"loop.example/g00009/impl"
)

// holdsOf are holds from pairs of numbers; their Kinds are of all sorts.
func holdsOf(pairs ...int64) []impl.GcOp {
	out := []impl.GcOp{}
	for i := 0; i < len(pairs); i += 2 {
		out = append(out, impl.GcOp{Kind: []int64{0, impl.GcDrop, -5, impl.GcHold, math.MaxInt64}[i/2%5], A: pairs[i], B: pairs[i+1]})
	}
	return out
}

func wantReach(t *testing.T, n int64, holds []impl.GcOp, roots []int64, want ...int64) {
	t.Helper()
	if got := impl.GcReach(n, holds, roots); !slices.Equal(got, want) {
		t.Errorf("%d %v %v: %v; wanted %v", n, holds, roots, got, want)
	}
}

func TestP17Reach(t *testing.T) {
	wantReach(t, 0, nil, nil)
	wantReach(t, 1, nil, nil)
	wantReach(t, 1, nil, []int64{1}, 1)
	wantReach(t, 3, nil, []int64{3, 1}, 1, 3)
	wantReach(t, 3, nil, []int64{3, 3, 3}, 3)
	wantReach(t, 3, holdsOf(1, 2, 2, 3), nil)
	wantReach(t, 3, holdsOf(1, 2, 2, 3), []int64{3}, 3)
	wantReach(t, 3, holdsOf(1, 2, 2, 3), []int64{2}, 2, 3)
	wantReach(t, 3, holdsOf(2, 3, 1, 2), []int64{1}, 1, 2, 3)
	wantReach(t, 3, holdsOf(3, 2, 2, 1, 1, 3), []int64{2}, 1, 2, 3)
	wantReach(t, 3, holdsOf(3, 2, 3, 2, 3, 2), []int64{3}, 2, 3)
	wantReach(t, 2, holdsOf(1, 1, 1, 1), []int64{1}, 1)
	wantReach(t, 2, holdsOf(2, 2, 2, 1), []int64{1}, 1)
	wantReach(t, 6, holdsOf(1, 2, 2, 1, 3, 4, 4, 3, 4, 5), []int64{1, 6}, 1, 2, 6)
}

func TestP17ReachOfWrongNumbers(t *testing.T) {
	wantReach(t, -1, nil, nil)
	wantReach(t, math.MinInt64, nil, nil)
	wantReach(t, math.MaxInt64, nil, []int64{1})
	wantReach(t, impl.MaxGcOps+1, nil, []int64{1})
	wantReach(t, 0, nil, []int64{1})
	wantReach(t, 0, nil, []int64{0})
	wantReach(t, 0, holdsOf(1, 1), nil)
	for _, wrong := range []int64{0, 4, -1, 1000, math.MaxInt64, math.MinInt64, 1<<32 + 1} {
		wantReach(t, 3, nil, []int64{1, wrong})
		wantReach(t, 3, nil, []int64{wrong, 1})
		wantReach(t, 3, holdsOf(wrong, 2), []int64{1})
		wantReach(t, 3, holdsOf(2, wrong), []int64{1})
		wantReach(t, 3, holdsOf(1, 2, 2, 3, 3, wrong), []int64{1})
		wantReach(t, 3, holdsOf(wrong, 1, 1, 2), []int64{1})
	}
	wantReach(t, 3, holdsOf(1, 3, 3, 1), []int64{3, 1}, 1, 3)
}

// TestP17ReachFar has as many things as can be, in a row and in a ring.
func TestP17ReachFar(t *testing.T) {
	n := int64(impl.MaxGcOps)
	pairs, all := []int64{}, []int64{}
	for i := int64(1); i < n; i++ {
		pairs = append(pairs, i+1, i)
		all = append(all, i)
	}
	all = append(all, n)
	wantReach(t, n, holdsOf(pairs...), []int64{n}, all...)
	wantReach(t, n, holdsOf(pairs...), []int64{n - 1}, all[:n-1]...)
	wantReach(t, n, holdsOf(pairs...), []int64{1}, 1)
	wantReach(t, n, holdsOf(append(pairs, 1, n)...), []int64{7}, all...)
	wantReach(t, n, nil, all, all...)
	wantReach(t, n+1, nil, all)
	wantReach(t, n-1, nil, all)
	many := slices.Repeat(holdsOf(pairs...), 50)
	wantReach(t, n, many, slices.Repeat(all, 50), all...)
}

// reachByRule goes over the holds until nothing more is reached.
func reachByRule(n int64, holds []impl.GcOp, roots []int64) []int64 {
	is := make([]bool, n+1)
	for _, num := range roots {
		is[num] = true
	}
	for more := true; more; {
		more = false
		for _, op := range holds {
			more = more || is[op.A] && !is[op.B]
			is[op.B] = is[op.B] || is[op.A]
		}
	}
	out := []int64{}
	for num := range n {
		if is[num+1] {
			out = append(out, num+1)
		}
	}
	return out
}

func TestP17ReachByTheRule(t *testing.T) {
	for i := range 20000 {
		r := rand.New(rand.NewSource(int64(i)))
		n := int64(1 + r.Intn(12))
		draw := func() int64 { return 1 + r.Int63n(n) }
		pairs, roots := []int64{}, []int64{}
		for range r.Intn(int(2 * n)) {
			pairs = append(pairs, draw(), draw())
		}
		for range r.Intn(4) {
			roots = append(roots, draw())
		}
		wantReach(t, n, holdsOf(pairs...), roots, reachByRule(n, holdsOf(pairs...), roots)...)
	}
}
