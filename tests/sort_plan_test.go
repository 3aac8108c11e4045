package tests

import (
	"math/rand"
	"slices"
	"testing"

	"loop.example/g00009/impl"
)

// wantEachNumberOfAnswers asks with each number of answers, up to some too many.
func wantEachNumberOfAnswers(t *testing.T, keys []int64) {
	t.Helper()
	asks, answers, order := keysByRule(keys)
	for k := range answers {
		wantPlan(t, len(keys), answers[:k], asks[:k+1], nil, false)
	}
	wantPlan(t, len(keys), answers, asks, order, true)
	for _, more := range [][]bool{{true}, {false}, {false, true, true}, make([]bool, 3000)} {
		wantPlan(t, len(keys), slices.Concat(answers, more), asks, order, true)
	}
}

func TestP8NumbersOfAnswers(t *testing.T) {
	for n := range 6 {
		lists(3, n, func(list []int64) { wantEachNumberOfAnswers(t, list) })
	}
	for _, n := range []int{5, 6, 7, 12, 13, 18, 40, 100} {
		r := rand.New(rand.NewSource(int64(n)))
		for range 6 {
			keys := drawnKeys(r, n)
			wantEachNumberOfAnswers(t, keys)
		}
		wantEachNumberOfAnswers(t, keysInRuns(7, -7, 3, -9, 6))
	}
	wantPlan(t, 2, nil, []impl.Ask{{A: 1, B: 0}}, nil, false)
	wantPlan(t, 2, []bool{true}, []impl.Ask{{A: 1, B: 0}}, []int64{1, 0}, true)
	wantPlan(t, 2, []bool{false, true}, []impl.Ask{{A: 1, B: 0}}, []int64{0, 1}, true)
	wantPlan(t, impl.MaxSort, nil, []impl.Ask{{A: 1, B: 0}}, nil, false)
	wantPlan(t, impl.MaxSort, make([]bool, impl.MaxSort-2), askRange(1, impl.MaxSort, ahead), nil, false)
	wantPlan(t, impl.MaxSort, make([]bool, impl.MaxSort-1), askRange(1, impl.MaxSort, ahead), stableOrder(make([]int64, impl.MaxSort)), true)
}

// TestP8AllAnswers gives each row of answers that can be asked for, also those
// that no order could give.
func TestP8AllAnswers(t *testing.T) {
	rows := 0
	var walk func(n int, answers []bool)
	walk = func(n int, answers []bool) {
		asks, order, done := planByRule(n, answers)
		wantPlan(t, n, answers, asks, order, done)
		if done {
			rows++
			return
		}
		walk(n, append(answers, false))
		walk(n, append(answers, true))
	}
	for n := range 9 {
		walk(n, make([]bool, 0, 64))
	}
	if rows < 10000 {
		t.Error("too few rows of answers:", rows)
	}
}

// TestP8DrawnAnswers draws answers, as no order would give them.
func TestP8DrawnAnswers(t *testing.T) {
	counts := inParallel(3000, func(i int) string {
		r := rand.New(rand.NewSource(int64(i)))
		n := r.Intn(80)
		if i%100 == 0 {
			n = impl.MaxSort - r.Intn(3)
		}
		answers := make([]bool, r.Intn(12*n+1))
		odds := 1 + r.Intn(9)
		for k := range answers {
			answers[k] = r.Intn(10) < odds
		}
		asks, order, done := planByRule(n, answers)
		wantPlan(t, n, answers, asks, order, done)
		if !done {
			return "few"
		}
		slices.Sort(order)
		if !slices.Equal(order, stableOrder(make([]int64, n))) {
			t.Error("an order that has not each thing once:", n)
		}
		return "done"
	})
	if counts["few"] < 500 || counts["done"] < 500 {
		t.Error("too few of a kind:", counts)
	}
}

// TestP8ToldOneByOne answers the last question of SortPlan again and again, by keys.
func TestP8ToldOneByOne(t *testing.T) {
	for i := range 300 {
		keys := drawnKeys(rand.New(rand.NewSource(int64(i)+300)), 60)
		want, asked := impl.SortKeys(keys)
		answers := []bool{}
		for {
			asks, order, done := impl.SortPlan(int64(len(keys)), answers)
			if done {
				if !slices.Equal(order, want) || int64(len(asks)) != asked || len(asks) != len(answers) {
					t.Error("told one by one, it is another order:", keys, order, want)
				}
				break
			}
			if len(asks) != len(answers)+1 || len(order) != 0 {
				t.Fatal("not one question more than answers:", len(asks), len(answers))
			}
			last := asks[len(asks)-1]
			answers = append(answers, keys[last.A] < keys[last.B])
		}
	}
}

// TestP8LongRunsToldShort has the largest number of things and too few answers at
// some places.
func TestP8LongRunsToldShort(t *testing.T) {
	r := rand.New(rand.NewSource(11))
	keys := make([]int64, impl.MaxSort)
	for i := range keys {
		keys[i] = r.Int63n(500)
	}
	asks, answers, _ := keysByRule(keys)
	for k := 0; k < len(answers); k += 1 + len(answers)/150 {
		wantPlan(t, len(keys), answers[:k], asks[:k+1], nil, false)
	}
	wantPlan(t, len(keys), answers[:len(answers)-1], asks, nil, false)
}
