package tests

import (
	"math"
	"math/rand"
	"slices"
	"testing"

	"loop.example/g00009/impl"
)

// TestP8QuestionsOneByOne has the questions written out, as the document's words give them.
func TestP8QuestionsOneByOne(t *testing.T) {
	list := []struct {
		keys  []int64
		asks  string
		order []int64
	}{
		{nil, "", nil},
		{[]int64{7}, "", []int64{0}},
		{[]int64{1, 2}, "1<0", []int64{0, 1}},
		{[]int64{2, 2}, "1<0", []int64{0, 1}},
		{[]int64{2, 1}, "1<0", []int64{1, 0}},
		{[]int64{3, 2, 1}, "1<0 2<1", []int64{2, 1, 0}},
		{[]int64{1, 2, 3}, "1<0 2<1", []int64{0, 1, 2}},
		{[]int64{1, 3, 2}, "1<0 2<1 2<1 2<0", []int64{0, 2, 1}},
		{[]int64{2, 3, 1}, "1<0 2<1 2<1 2<0", []int64{2, 0, 1}},
		{[]int64{2, 1, 3}, "1<0 2<1 2<0", []int64{1, 0, 2}},
		{[]int64{2, 1, 1}, "1<0 2<1 2<0 2<1", []int64{1, 2, 0}},
		{[]int64{2, 1, 2}, "1<0 2<1 2<0", []int64{1, 0, 2}},
		{[]int64{1, 1, 0}, "1<0 2<1 2<1 2<0", []int64{2, 0, 1}},
		{[]int64{1, 0, 1, 0}, "1<0 2<1 2<0 3<0 3<1", []int64{1, 3, 0, 2}},
		{[]int64{1, 3, 2, 4, 0}, "1<0 2<1 2<1 2<0 3<2 3<1 4<1 4<2 4<0", []int64{4, 0, 2, 1, 3}},
		{[]int64{1, 2, 3, 4, 5, 6, 7}, "1<0 2<1 3<2 4<3 5<4 6<5", []int64{0, 1, 2, 3, 4, 5, 6}},
		{[]int64{7, 6, 5, 4, 3, 2, 1}, "1<0 2<1 3<2 4<3 5<4 6<5", []int64{6, 5, 4, 3, 2, 1, 0}},
		{[]int64{1, 2, 3, 4, 5, 6, 0}, "1<0 2<1 3<2 4<3 5<4 6<5 6<0", []int64{6, 0, 1, 2, 3, 4, 5}},
		{[]int64{6, 5, 4, 3, 2, 1, 1}, "1<0 2<1 3<2 4<3 5<4 6<5 6<5 6<4", []int64{5, 6, 4, 3, 2, 1, 0}},
		{[]int64{1, 2, 3, 4, 5, 0, 6}, "1<0 2<1 3<2 4<3 5<4 5<2 5<1 5<0 6<5 6<0 6<1 6<2 6<3 6<4", []int64{5, 0, 1, 2, 3, 4, 6}},
		{[]int64{1, 2, 3, 4, 5, 6, 0, 7}, "1<0 2<1 3<2 4<3 5<4 6<5 7<6 6<0 7<0 7<1 7<2 7<3 7<4 7<5", []int64{6, 0, 1, 2, 3, 4, 5, 7}},
	}
	for _, c := range list {
		_, answers, _ := keysByRule(c.keys)
		asks, order, ok := impl.SortPlan(int64(len(c.keys)), answers)
		if asksTold(asks) != c.asks || !slices.Equal(order, c.order) || !ok {
			t.Errorf("%v: %s %v %v, not %s %v", c.keys, asksTold(asks), order, ok, c.asks, c.order)
		}
		order, n := impl.SortKeys(c.keys)
		if n != int64(len(asks)) || !slices.Equal(order, c.order) {
			t.Errorf("%v: %v with %d questions, not %v with %d", c.keys, order, n, c.order, len(asks))
		}
	}
}

// askRange asks a, a + 1 .. each against one thing, or against the one ahead.
func askRange(from int64, to int64, against func(a int64) int64) []impl.Ask {
	out := []impl.Ask{}
	for a := from; a < to; a++ {
		out = append(out, impl.Ask{A: a, B: against(a)})
	}
	return out
}

func ahead(a int64) int64 { return a - 1 }

func always(b int64) func(int64) int64 { return func(int64) int64 { return b } }

// TestP8MergesInTheirOrder has runs of six of which each lies below the one ahead
// of it: five of them, and four.
func TestP8MergesInTheirOrder(t *testing.T) {
	keys := []int64{}
	for i := range int64(30) {
		keys = append(keys, i%6-100*(i/6))
	}
	four := slices.Concat(askRange(1, 24, ahead), askRange(6, 12, always(0)), askRange(18, 24, always(12)), askRange(18, 24, always(6)), askRange(12, 18, always(6)))
	five := slices.Concat(askRange(1, 30, ahead), four[23:], askRange(24, 30, always(18)))
	for n, want := range map[int][]impl.Ask{24: four, 30: five} {
		_, answers, _ := keysByRule(keys[:n])
		wantPlan(t, n, answers, want, stableOrder(keys[:n]), true)
		wantSort(t, keys[:n])
	}
}

func TestP8Limits(t *testing.T) {
	for _, n := range []int64{math.MinInt64, -2001, -2, -1, impl.MaxSort + 1, impl.MaxSort + 2, 1 << 32, math.MaxInt64} {
		for _, answers := range [][]bool{nil, {true}, make([]bool, 5000)} {
			if asks, order, ok := impl.SortPlan(n, answers); len(asks) != 0 || len(order) != 0 || ok {
				t.Error("a number that can't be:", n, len(asks), len(order), ok)
			}
		}
	}
	for _, n := range []int{0, 1} {
		wantPlan(t, n, nil, nil, stableOrder(make([]int64, n)), true)
		wantPlan(t, n, []bool{true, false}, nil, stableOrder(make([]int64, n)), true)
	}
	for n := range impl.MaxSort + 1 {
		if n < 40 || n%97 == 0 || n > impl.MaxSort-3 {
			wantPlan(t, n, make([]bool, 2000), askRange(1, int64(n), ahead), stableOrder(make([]int64, n)), true)
			order, asked := impl.SortKeys(make([]int64, n))
			if asked != max(0, int64(n)-1) || !slices.Equal(order, stableOrder(make([]int64, n))) {
				t.Error("keys of one kind:", n, asked)
			}
		}
	}
	for _, n := range []int{impl.MaxSort + 1, impl.MaxSort + 2, 100000} {
		if order, asked := impl.SortKeys(make([]int64, n)); len(order) != 0 || asked != -1 {
			t.Error("too many keys:", n, len(order), asked)
		}
	}
}

func TestP8UpDownAndTheSame(t *testing.T) {
	for _, n := range []int{0, 1, 2, 3, 4, 5, 6, 7, 8, 11, 12, 13, 14, 17, 18, 19, 64, 1999, impl.MaxSort} {
		up, down, pairs, pairsDown, turns, teeth := []int64{}, []int64{}, []int64{}, []int64{}, []int64{}, []int64{}
		for i := range int64(n) {
			up, down = append(up, i), append(down, -i)
			pairs, pairsDown = append(pairs, i/2), append(pairsDown, -(i/2))
			turns, teeth = append(turns, i%2), append(teeth, i%7-i/7)
		}
		for _, keys := range [][]int64{up, down, pairs, pairsDown, turns, teeth} {
			wantSort(t, keys)
		}
		if _, asked := impl.SortKeys(down); asked != max(0, int64(n)-1) {
			t.Error("a run downward asks each pair once:", n, asked)
		}
	}
}

// TestP8RunsOfEachLength has two runs of each length up to 14, up and down, with
// a third one behind them.
func TestP8RunsOfEachLength(t *testing.T) {
	for a := -14; a <= 14; a++ {
		for b := -14; b <= 14; b++ {
			for _, c := range []int{0, 1, 2, -3, 5, 6, -7, 13} {
				wantSort(t, keysInRuns(a, b, c))
			}
			wantSort(t, keysInRuns(8, -9, a, b))
			wantSort(t, keysInRuns(8, -9, 7, a, b))
			wantSort(t, keysInRuns(6, 6, 6, 6, 6, a, b))
		}
	}
}

func TestP8KeysAtTheEnds(t *testing.T) {
	ends := []int64{math.MinInt64, math.MinInt64 + 1, -1, 0, 1, math.MaxInt64 - 1, math.MaxInt64}
	for _, a := range ends {
		for _, b := range ends {
			for _, c := range ends {
				wantSort(t, []int64{a, b, c})
				wantSort(t, []int64{a, b, c, a, c, b, b, c, a, 0, 0, a, b})
			}
		}
	}
	order, _ := impl.SortKeys([]int64{math.MaxInt64, math.MinInt64})
	if !slices.Equal(order, []int64{1, 0}) {
		t.Error("the ends:", order)
	}
}

// lists calls f with each list of n numbers below k.
func lists(k int64, n int, f func(list []int64)) {
	list := make([]int64, n)
	for {
		f(list)
		i := 0
		for i < n && list[i] == k-1 {
			list[i] = 0
			i++
		}
		if i == n {
			return
		}
		list[i]++
	}
}

func TestP8AllShortKeys(t *testing.T) {
	for n := range 8 {
		lists(4, n, func(list []int64) { wantSort(t, list) })
	}
	for n := 8; n <= 13; n++ {
		lists(2, n, func(list []int64) { wantSort(t, list) })
	}
	lists(3, 9, func(list []int64) { wantSort(t, list) })
}

func TestP8DrawnKeys(t *testing.T) {
	inParallel(4000, func(i int) string {
		wantSort(t, drawnKeys(rand.New(rand.NewSource(int64(i))), 120))
		return "sorted"
	})
	inParallel(60, func(i int) string {
		wantSort(t, drawnKeys(rand.New(rand.NewSource(int64(i)+7000)), impl.MaxSort))
		return "sorted"
	})
	r := rand.New(rand.NewSource(5))
	for range 4 {
		keys := make([]int64, impl.MaxSort)
		for i := range keys {
			keys[i] = int64(r.Uint64())
		}
		wantSort(t, keys)
	}
}
