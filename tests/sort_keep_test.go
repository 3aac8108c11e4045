package tests

import (
	"math/rand"
	"slices"
	"testing"

	"loop.example/g00009/impl"
)

func keepKeys() [][]int64 {
	out := [][]int64{nil, {1}, {2, 1}, {1, 2}, keysInRuns(-7), keysInRuns(8, -9, 3), make([]int64, impl.MaxSort), make([]int64, impl.MaxSort+1)}
	for i := range 150 {
		out = append(out, drawnKeys(rand.New(rand.NewSource(int64(i)+800)), 70))
	}
	return out
}

func overwriteList[T any](list []T, with T) {
	list = list[:cap(list)]
	for i := range list {
		list[i] = with
	}
}

func TestP20SortsTheSameTwice(t *testing.T) {
	for _, keys := range keepKeys() {
		given := spared(keys, -3)
		first, asked := impl.SortKeys(given)
		if !isSpared(given, keys, -3) || listsShare(first, given) {
			t.Fatal("SortKeys writes into its keys, or answers them:", keys)
		}
		kept := slices.Clone(first)
		second, again := impl.SortKeys(slices.Clone(keys))
		overwriteList(first, -7)
		third, last := impl.SortKeys(given)
		if again != asked || last != asked || !slices.Equal(second, kept) || !slices.Equal(third, kept) || listsShare(first, second) || !isSpared(given, keys, -3) {
			t.Fatal("SortKeys answers otherwise the second time:", keys)
		}
	}
}

func TestP20PlansTheSameTwice(t *testing.T) {
	for _, keys := range keepKeys() {
		n := int64(len(keys))
		_, all, _ := keysByRule(keys)
		for _, answers := range [][]bool{all, all[:len(all)/2], append(slices.Clone(all), true), nil} {
			for _, fill := range []bool{false, true} {
				given := spared(answers, fill)
				asks, order, done := impl.SortPlan(n, given)
				if !isSpared(given, answers, fill) || listsShare(asks, given) || listsShare(order, given) || listsShare(asks, order) {
					t.Fatal("SortPlan writes into its answers, or answers memory that it has:", n, answers)
				}
				keptAsks, keptOrder := slices.Clone(asks), slices.Clone(order)
				secondAsks, secondOrder, second := impl.SortPlan(n, slices.Clone(answers))
				overwriteList(asks, impl.Ask{A: -7, B: -7})
				overwriteList(order, -7)
				thirdAsks, thirdOrder, third := impl.SortPlan(n, given)
				if second != done || third != done || !slices.Equal(secondAsks, keptAsks) || !slices.Equal(thirdAsks, keptAsks) || !slices.Equal(secondOrder, keptOrder) || !slices.Equal(thirdOrder, keptOrder) {
					t.Fatal("SortPlan answers otherwise the second time:", n, answers)
				}
			}
		}
	}
}
