package tests

import (
	"math/rand"
	"slices"
	"strconv"
	"strings"
	"testing"

	"loop.example/g00009/impl"
)

// sortByRule is chapter 8 a second time: less is asked in the document's order.
func sortByRule(n int, less func(a int64, b int64) bool) []int64 {
	rest := []int64{}
	for i := range n {
		rest = append(rest, int64(i))
	}
	runs := [][]int64{}
	for len(rest) > 0 {
		run := firstRun(rest, less)
		rest = rest[len(run):]
		for len(run) < 6 && len(rest) > 0 {
			run = slices.Insert(run, placeByHalves(run, rest[0], less), rest[0])
			rest = rest[1:]
		}
		runs = append(runs, run)
	}
	for len(runs) > 1 {
		next := [][]int64{}
		for i := 0; i < len(runs); i += 2 {
			if i+1 == len(runs) {
				next = append(next, runs[i])
			} else {
				next = append(next, mergeByRule(runs[i], runs[i+1], less))
			}
		}
		runs = next
	}
	return slices.Concat(runs...)
}

func firstRun(rest []int64, less func(a int64, b int64) bool) []int64 {
	up, down := []int64{rest[0]}, []int64{rest[0]}
	for i := 1; i < len(rest); i++ {
		isLess := less(rest[i], rest[i-1])
		if !isLess && len(up) == i {
			up = append(up, rest[i])
		} else if isLess && len(down) == i {
			down = slices.Insert(down, 0, rest[i])
		} else {
			break
		}
	}
	if len(down) > len(up) {
		return down
	}
	return up
}

func placeByHalves(run []int64, x int64, less func(a int64, b int64) bool) int {
	lo, hi := 0, len(run)
	for lo < hi {
		if mid := (lo + hi) / 2; less(x, run[mid]) {
			hi = mid
		} else {
			lo = mid + 1
		}
	}
	return lo
}

func mergeByRule(left []int64, right []int64, less func(a int64, b int64) bool) []int64 {
	switch {
	case len(left) == 0:
		return right
	case len(right) == 0:
		return left
	}
	out := []int64{}
	for i, k := 0, 0; ; {
		if less(right[k], left[i]) {
			out = append(out, right[k])
			k++
		} else {
			out = append(out, left[i])
			i++
		}
		if i == len(left) || k == len(right) {
			return append(append(out, left[i:]...), right[k:]...)
		}
	}
}

// noAnswer is thrown where a sort asks for more answers than there are.
type noAnswer struct{}

// planByRule is SortPlan for an n that may be.
func planByRule(n int, answers []bool) (asks []impl.Ask, order []int64, done bool) {
	defer func() {
		if thrown := recover(); thrown != nil {
			_ = thrown.(noAnswer)
			order, done = nil, false
		}
	}()
	order = sortByRule(n, func(a int64, b int64) bool {
		asks = append(asks, impl.Ask{A: a, B: b})
		if len(asks) > len(answers) {
			panic(noAnswer{})
		}
		return answers[len(asks)-1]
	})
	return asks, order, true
}

// keysByRule is what keys give: the questions, their answers and the order.
func keysByRule(keys []int64) ([]impl.Ask, []bool, []int64) {
	asks, answers := []impl.Ask{}, []bool{}
	order := sortByRule(len(keys), func(a int64, b int64) bool {
		asks = append(asks, impl.Ask{A: a, B: b})
		answers = append(answers, keys[a] < keys[b])
		return keys[a] < keys[b]
	})
	return asks, answers, order
}

// stableOrder is the order of a stable sort, by the library.
func stableOrder(keys []int64) []int64 {
	order := []int64{}
	for i := range keys {
		order = append(order, int64(i))
	}
	slices.SortStableFunc(order, func(a int64, b int64) int {
		if keys[a] < keys[b] {
			return -1
		}
		if keys[a] > keys[b] {
			return 1
		}
		return 0
	})
	return order
}

func asksTold(asks []impl.Ask) string {
	words := []string{}
	for _, a := range asks {
		words = append(words, strconv.FormatInt(a.A, 10)+"<"+strconv.FormatInt(a.B, 10))
	}
	return strings.Join(words, " ")
}

// wantSort holds SortKeys and SortPlan for keys against the rule and against a
// sort that is known to be stable.
func wantSort(t *testing.T, keys []int64) {
	t.Helper()
	asks, answers, order := keysByRule(keys)
	if !slices.Equal(order, stableOrder(keys)) {
		t.Fatal("the rule does not sort:", keys, order)
	}
	got, n := impl.SortKeys(keys)
	if n != int64(len(asks)) || !slices.Equal(got, order) {
		t.Errorf("SortKeys of %v is %v with %d questions, not %v with %d", keys, got, n, order, len(asks))
	}
	wantPlan(t, len(keys), answers, asks, order, true)
}

func wantPlan(t *testing.T, n int, answers []bool, asks []impl.Ask, order []int64, done bool) {
	t.Helper()
	gotAsks, gotOrder, ok := impl.SortPlan(int64(n), answers)
	if !slices.Equal(gotAsks, asks) || !slices.Equal(gotOrder, order) || ok != done {
		t.Errorf("SortPlan of %d and %v:\n%s %v %v, not\n%s %v %v", n, answers, asksTold(gotAsks), gotOrder, ok, asksTold(asks), order, done)
	}
}

// keysInRuns are keys of runs of the sizes told, upward from 0, and for those
// below 0 downward from 40.
func keysInRuns(sizes ...int) []int64 {
	out := []int64{}
	for _, size := range sizes {
		for i := range int64(max(size, -size)) {
			if size > 0 {
				out = append(out, 2*i)
			} else {
				out = append(out, 40-2*i)
			}
		}
	}
	return out
}

// drawnKeys are keys of many kinds: drawn from few or many, in runs, nearly
// sorted.
func drawnKeys(r *rand.Rand, most int) []int64 {
	out := make([]int64, r.Intn(most+1))
	span := int64(1 + r.Intn(2*len(out)+2))
	kind := r.Intn(4)
	step := int64(r.Intn(5) - 2)
	at := int64(0)
	for i := range out {
		switch kind {
		case 0:
			out[i] = r.Int63n(span)
		case 1:
			if r.Intn(9) == 0 {
				at, step = r.Int63n(span), int64(r.Intn(5)-2)
			}
			out[i] = at
			at += step
		case 2:
			out[i] = int64(i) + r.Int63n(6)
		case 3:
			out[i] = -int64(i) + r.Int63n(3)
		}
	}
	return out
}
