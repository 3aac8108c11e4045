package tests

import (
	"math/rand"
	"slices"
	"testing"

	"loop.example/g00009/impl"
)

func keepGc() [][]impl.GcOp {
	out := [][]impl.GcOp{nil, gcOps("new"), gcOps("new; unroot 1"), gcOps("0; 11"), slices.Repeat(gcOps("new"), impl.MaxGcOps), slices.Repeat(gcOps("new"), impl.MaxGcOps+1)}
	for i := range 200 {
		out = append(out, drawnGc(rand.New(rand.NewSource(int64(i)+70000)), 60))
	}
	return out
}

func TestP20CollectorsTheSameTwice(t *testing.T) {
	spare := impl.GcOp{Kind: 1, A: 98, B: 97}
	for _, ops := range keepGc() {
		given := spared(ops, spare)
		answers, events := impl.GcRun(given)
		if !isSpared(given, ops, spare) || listsShare(answers, given) || listsShare(events, given) || listsShare(answers, events) {
			t.Fatal("GcRun writes into its operations, or answers memory that it has:", gcOpsTold(ops))
		}
		kept := gcTold(answers, events)
		secondAnswers, secondEvents := impl.GcRun(slices.Clone(ops))
		if listsShare(answers, secondAnswers) || listsShare(events, secondEvents) {
			t.Fatal("GcRun answers the same memory twice:", gcOpsTold(ops))
		}
		overwriteList(answers, -7)
		overwriteList(events, impl.GcEvent{Kind: -7, Thing: -7})
		if gcTold(secondAnswers, secondEvents) != kept || gcTold(impl.GcRun(given)) != kept || !isSpared(given, ops, spare) {
			t.Fatal("GcRun answers otherwise the second time:", gcOpsTold(ops))
		}
	}
}

func TestP20ReachTheSameTwice(t *testing.T) {
	spare := impl.GcOp{Kind: 1, A: 2, B: 3}
	for i := range 500 {
		r := rand.New(rand.NewSource(int64(i)))
		holds, roots := []impl.GcOp{}, []int64{}
		for range r.Intn(20) {
			holds = append(holds, impl.GcOp{Kind: 3, A: 1 + r.Int63n(10), B: 1 + r.Int63n(10)})
			roots = append(roots, 1+r.Int63n(10))
		}
		for _, n := range []int64{10, 9, 0, -1} {
			givenHolds, givenRoots := spared(holds, spare), spared(roots, 4)
			first := impl.GcReach(n, givenHolds, givenRoots)
			if !isSpared(givenHolds, holds, spare) || !isSpared(givenRoots, roots, 4) || listsShare(first, givenHolds) || listsShare(first, givenRoots) {
				t.Fatal("GcReach writes into what it is given, or answers it:", n, holds, roots)
			}
			kept := slices.Clone(first)
			second := impl.GcReach(n, holds, roots)
			overwriteList(first, -7)
			if !slices.Equal(second, kept) || !slices.Equal(impl.GcReach(n, givenHolds, givenRoots), kept) || listsShare(first, second) || !isSpared(givenRoots, roots, 4) {
				t.Fatal("GcReach answers otherwise the second time:", n, holds, roots)
			}
		}
	}
}
