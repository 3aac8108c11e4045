package tests

import (
	"fmt"
	"math"
	"math/rand"
	"slices"
	"strings"
	"testing"

	"loop.example/g00009/impl"
)

func TestP17EachOperation(t *testing.T) {
	wantGc(t, []gcRow{
		{"", "", "|"},
		{"", "new; new; alive; new; alive", "1 2 2 3 3 |"},
		{"", "new 7 8; count 1", "1 1 |"},
		{"2*new", "hold 1 2; hold 1 2; hold 2 1; count 1; count 2", "2 3 2 2 3 |"},
		{"new", "hold 1 1; hold 1 1; drop 1 1; drop 1 1; drop 1 1", "2 3 2 1 -1 |"},
		{"2*new; hold 1 2; hold 1 2", "drop 1 2; drop 2 1; drop 1 2; drop 1 2", "2 -1 1 -1 |"},
		{"2*new; hold 1 2; unroot 2", "count 2; drop 1 2; count 2; alive", "1 0 -1 1 | free2"},
		{"new", "root 1; root 1 9; unroot 1; unroot 1; unroot 1; unroot 1", "2 3 2 1 0 -1 | free1"},
		{"2*new; hold 1 2", "unroot 2; unroot 2; count 2", "1 -1 1 |"},
		{"new", "weak 1; weak 1; weak 1 5; unroot 1", "1 2 3 0 | weak1 free1"},
		{"new", "final 1 1; final 1 2; final 1 0; final 1 3; final 1 -1; unroot 1", "1 2 0 -1 -1 0 | free1"},
		{"3*new", "collect; collect 5 6; alive 7 7", "0 0 3 |"},
		{"new; unroot 1", "new; count 1; count 2; alive", "2 -1 1 1 |"},
	})
}

// TestP17WrongArguments asks of each Kind what it answers of things that are
// alive (1 and 3), freed (2), never made, and no numbers of things at all; what
// is refused leaves everything as it was.
func TestP17WrongArguments(t *testing.T) {
	before := gcOps("3*new; hold 1 3; hold 3 1; unroot 2")
	after := gcOps("alive; count 1; count 3; drop 1 3; drop 3 1; unroot 1; unroot 3; alive")
	wantAfter, eventsAfter := impl.GcRun(slices.Concat(before, after))
	numbers := []int64{1, 2, 3, 4, 0, -1, -3, 5, impl.MaxGcOps, math.MaxInt64, math.MinInt64, 1 << 32, 1<<32 + 1}
	isAlive := func(n int64) bool { return n == 1 || n == 3 }
	for kind := int64(-3); kind <= 14; kind++ {
		for _, a := range numbers {
			for _, b := range numbers {
				ops := slices.Concat(before, []impl.GcOp{{Kind: kind, A: a, B: b}}, after)
				answers, events := impl.GcRun(ops)
				refused := kind < 1 || kind > 10
				switch kind {
				case impl.GcHold:
					refused = !isAlive(a) || !isAlive(b)
				case impl.GcDrop:
					refused = !isAlive(a) || !isAlive(b) || a == b
				case impl.GcRoot, impl.GcUnroot, impl.GcWeak, impl.GcCount:
					refused = !isAlive(a)
				case impl.GcFinal:
					refused = !isAlive(a) || b < 0 || b > 2
				}
				if got := answers[len(before)]; (got == -1) != refused {
					t.Fatalf("kind %d of %d and %d: %d", kind, a, b, got)
				}
				if refused && (!slices.Equal(answers[len(before)+1:], wantAfter[len(before):]) || !slices.Equal(events, eventsAfter)) {
					t.Fatalf("kind %d of %d and %d is refused and does something", kind, a, b)
				}
				wantGcRule(t, ops)
			}
		}
	}
	for _, kind := range []int64{0, 11, -1, math.MaxInt64, math.MinInt64, 1<<32 + 1, 256 + 1} {
		if answers, events := impl.GcRun([]impl.GcOp{{Kind: impl.GcNew}, {Kind: kind, A: 1, B: 1}}); !slices.Equal(answers, []int64{1, -1}) || len(events) > 0 {
			t.Error("a kind that is none", kind, answers, events)
		}
	}
}

func TestP17Finalizers(t *testing.T) {
	wantGc(t, []gcRow{
		{"new; final 1 1", "unroot 1; count 1", "0 -1 | final1 free1"},
		{"new; final 1 1; weak 1", "unroot 1", "0 | final1 weak1 free1"},
		{"new; final 1 2; weak 1", "unroot 1; count 1; weak 1; unroot 1; unroot 1", "1 1 2 0 -1 | final1 weak1 free1"},
		{"new; final 1 2", "root 1; unroot 1; unroot 1; unroot 1", "2 1 1 0 | final1 free1"},
		{"new; final 1 2; unroot 1", "final 1 1; unroot 1", "1 0 | free1"},
		{"new; final 1 2; unroot 1", "final 1 2; unroot 1", "2 0 | free1"},
		{"new; final 1 2; unroot 1", "final 1 0; unroot 1", "0 0 | free1"},
		{"new; final 1 2", "final 1 0; unroot 1", "0 0 | free1"},
		{"new; final 1 1", "final 1 0; final 1 1; unroot 1", "0 1 0 | final1 free1"},
		{"new; final 1 1", "final 1 2; unroot 1; unroot 1", "2 1 0 | final1 free1"},
		{"new; final 1 2", "final 1 1; unroot 1", "1 0 | final1 free1"},
		{"new; final 1 1", "final 1 3; unroot 1", "-1 0 | final1 free1"},
		{"new; final 1 2", "final 1 -1; unroot 1; unroot 1", "-1 1 0 | final1 free1"},
		{"2*new; hold 1 2; unroot 2; final 2 2", "drop 1 2; count 2; unroot 2", "1 1 0 | final2 free2"},
		{"2*new; hold 1 2; unroot 2; final 2 2", "unroot 1; count 2; alive", "0 1 1 | free1 final2"},
		{"2*new; hold 1 2; unroot 2; final 1 2; final 2 1", "unroot 1; unroot 1", "1 0 | final1 free1 final2 free2"},
		{"2*new; hold 1 2; unroot 2; final 1 1; final 2 1; weak 1; weak 2", "unroot 1", "0 | final1 weak1 free1 final2 weak2 free2"},
		{"new; hold 1 1; unroot 1; final 1 2", "drop 1 1; count 1; unroot 1", "1 1 0 | final1 free1"},
	})
}

func TestP17OrderOfDeath(t *testing.T) {
	wantGc(t, []gcRow{
		{"4*new; hold 1 3; hold 1 2; hold 1 4; unroot 2; unroot 3; unroot 4", "unroot 1; alive", "0 0 | free1 free3 free2 free4"},
		{"3*new; hold 1 3; hold 1 2; hold 1 3; unroot 2; unroot 3", "unroot 1", "0 | free1 free3 free2"},
		{"3*new; hold 1 3; hold 1 2; hold 1 3; drop 1 3; unroot 2; unroot 3", "unroot 1", "0 | free1 free3 free2"},
		{"3*new; hold 1 3; hold 1 2; drop 1 3; hold 1 3; unroot 2; unroot 3", "unroot 1", "0 | free1 free2 free3"},
		{"3*new; hold 1 3; hold 1 3; hold 1 2; 2*drop 1 3; hold 1 3; unroot 2; unroot 3", "unroot 1", "0 | free1 free2 free3"},
		{"4*new; hold 1 2; hold 1 3; hold 1 4; drop 1 3; unroot 2; unroot 4", "unroot 1; count 3", "0 1 | free1 free2 free4"},
		{"5*new; hold 1 2; hold 1 3; hold 2 4; hold 2 5; unroot 2; unroot 3; unroot 4; unroot 5", "unroot 1", "0 | free1 free2 free4 free5 free3"},
		{"4*new; hold 1 2; hold 1 3; hold 1 4; hold 3 2; unroot 2; unroot 3; unroot 4", "unroot 1", "0 | free1 free3 free2 free4"},
		{"3*new; hold 1 2; hold 1 2; hold 1 3; hold 3 2; unroot 2; unroot 3", "unroot 1", "0 | free1 free3 free2"},
		{"3*new; hold 1 2; hold 1 3; hold 1 2; unroot 3", "unroot 1; count 2", "0 1 | free1 free3"},
		{"3*new; hold 1 2; hold 2 3; hold 3 2; unroot 2; unroot 3", "unroot 1; count 2; alive", "0 1 2 | free1"},
		{"3*new; hold 1 2; hold 1 3; hold 2 1; unroot 2; unroot 3; unroot 1", "drop 2 1; alive", "0 0 | free1 free2 free3"},
		{"2*new; hold 1 2; hold 2 1; unroot 1; unroot 2", "drop 1 2; alive; count 1", "0 0 -1 | free2 free1"},
		{"2*new; 2*hold 1 2; hold 2 1; unroot 1; unroot 2", "drop 1 2; drop 1 2; alive", "1 0 0 | free2 free1"},
		{"new; 3*hold 1 1; unroot 1", "drop 1 1; drop 1 1; drop 1 1", "2 1 0 | free1"},
		{"3*new; hold 1 2; hold 1 3; unroot 2; unroot 3; final 2 2; weak 3", "unroot 1; alive; unroot 2", "0 1 0 | free1 final2 weak3 free3 free2"},
		{"3*new; hold 1 2; hold 2 3; unroot 2; unroot 3; final 2 2", "unroot 1; count 3; unroot 2", "0 1 0 | free1 final2 free2 free3"},
	})
}

// What a freed thing held, and has not let go yet, is not counted: one that dies
// on the way takes it along.
func TestP17FreedThingsDoNotCount(t *testing.T) {
	four := "4*new; hold 1 2; hold 1 3; hold 1 4; "
	lone := "unroot 2; unroot 3; unroot 4"
	five := "5*new; hold 1 2; hold 1 3; hold 1 4; hold 1 5; "
	wantGc(t, []gcRow{
		{four + "hold 2 4; " + lone, "count 4; unroot 1; alive", "2 0 0 | free1 free2 free4 free3"},
		{four + "hold 1 4; 3*hold 2 4; " + lone, "unroot 1", "0 | free1 free2 free4 free3"},
		{four + "hold 2 4; hold 3 4; " + lone, "unroot 1", "0 | free1 free2 free3 free4"},
		{four + "hold 2 4; hold 4 3; " + lone, "unroot 1", "0 | free1 free2 free4 free3"},
		{four + "hold 2 4; " + lone + "; final 4 1; weak 4; final 3 2", "unroot 1; alive; count 3", "0 1 1 | free1 free2 final4 weak4 free4 final3"},
		// 4 is held by the root again when its turn comes.
		{four + "hold 2 4; " + lone + "; final 4 2; weak 4", "unroot 1; count 4; unroot 4", "0 1 0 | free1 free2 final4 free3 weak4 free4"},
		// 2 lives, and holds 4 on.
		{four + "hold 2 4; " + lone + "; final 2 2", "unroot 1; count 4; unroot 2", "0 1 0 | free1 final2 free3 free2 free4"},
		{four + "hold 2 4; unroot 2; unroot 3", "unroot 1; count 4; unroot 4", "0 1 0 | free1 free2 free3 free4"},
		{four + "hold 2 4; hold 4 4; " + lone, "unroot 1; count 4; collect", "0 1 1 | free1 free2 free3 free4"},
		{four + "hold 2 4; hold 4 1; " + lone + "; unroot 1", "count 1; drop 4 1; alive", "1 0 0 | free1 free2 free4 free3"},
		{five + "hold 2 5; hold 5 4; " + lone + "; unroot 5", "unroot 1", "0 | free1 free2 free5 free4 free3"},
		{five + "hold 2 5; hold 2 4; hold 4 3; hold 5 3; " + lone + "; unroot 5", "unroot 1", "0 | free1 free2 free5 free4 free3"},
		// Both 1 and 2 wait to let 5 go when 3, which 2 holds, takes it along.
		{"5*new; hold 1 2; hold 1 4; hold 1 5; hold 2 3; hold 2 4; hold 2 5; hold 3 5; " + lone + "; unroot 5", "unroot 1", "0 | free1 free2 free3 free5 free4"},
		{"4*new; hold 1 2; hold 2 3; hold 2 4; hold 2 1; hold 3 4; " + lone + "; unroot 1", "drop 1 2; alive", "0 0 | free2 free3 free4 free1"},
	})
}

func TestP17Collections(t *testing.T) {
	wantGc(t, []gcRow{
		{"", "collect", "0 |"},
		{"2*new; hold 1 2; unroot 2", "collect; alive", "0 2 |"},
		{"new; hold 1 1", "unroot 1; alive; collect; alive; collect", "1 1 1 0 0 | free1"},
		{"2*new; hold 1 2; hold 2 1", "unroot 2; unroot 1; alive; collect; count 1; count 2", "1 1 2 2 -1 -1 | free1 free2"},
		{"3*new; hold 3 2; hold 2 3; hold 2 1; unroot 3; unroot 2", "count 1; collect; count 1; alive", "2 2 1 1 | free2 free3"},
		{"3*new; 2*hold 3 2; hold 2 3; 3*hold 2 1; hold 3 1; unroot 3; unroot 2", "count 1; collect; count 1; unroot 1", "5 2 1 0 | free2 free3 free1"},
		{"3*new; hold 1 2; hold 2 1; hold 1 3; hold 3 2; unroot 1; unroot 2; unroot 3", "alive; collect", "3 3 | free1 free2 free3"},
		{"3*new; hold 1 2; hold 2 1; hold 1 3; unroot 1; unroot 2; unroot 3", "alive; collect", "3 3 | free1 free2 free3"},
		{"4*new; hold 1 2; hold 2 1; hold 3 4; hold 4 3; unroot 1; unroot 2; unroot 3; unroot 4; root 4", "collect; alive", "2 2 | free1 free2"},
		// Finalizers ascending, then weak references, then all are freed.
		{"3*new; hold 1 2; hold 2 3; hold 3 1; unroot 1; unroot 2; unroot 3; final 3 1; final 1 1; weak 3; weak 2; 2*weak 1", "collect", "3 | final1 final3 weak1 weak2 weak3 free1 free2 free3"},
		{"2*new; hold 1 2; hold 2 1; final 1 2; weak 1; weak 2; unroot 1; unroot 2", "collect; count 1; count 2; unroot 1; collect", "0 2 1 1 2 | final1 weak1 weak2 free1 free2"},
		// 3 is lost and is not reached from 1, which comes back with 2.
		{"3*new; hold 1 2; hold 2 1; hold 3 1; hold 3 3; final 1 2; unroot 1; unroot 2; unroot 3", "count 1; collect; alive; count 1", "2 1 2 2 | final1 free3"},
		{"3*new; hold 1 2; hold 2 1; hold 3 1; hold 3 3; final 3 2; final 1 1; unroot 1; unroot 2; unroot 3", "collect; alive; unroot 3; collect", "0 3 1 3 | final1 final3 free1 free2 free3"},
		{"2*new; hold 1 2; hold 2 1; final 1 2; final 2 2; unroot 1; unroot 2", "collect; count 1; count 2; unroot 1; unroot 2; collect", "0 2 2 1 1 2 | final1 final2 free1 free2"},
		{"2*new; hold 1 2; hold 2 1; final 1 2; unroot 1; unroot 2; collect; unroot 1", "final 1 1; final 1 2; collect", "1 2 2 | free1 free2"},
		{"new; final 1 2; unroot 1; hold 1 1; unroot 1", "final 1 2; collect; alive", "2 1 0 | free1"},
		// A finalizer of a lost thing that has been taken away.
		{"new; hold 1 1; final 1 2; unroot 1", "final 1 0; collect", "0 1 | free1"},
		// Finalizers run of things that are held by lost ones only, none of the root's.
		{"3*new; hold 1 1; hold 1 2; hold 1 3; final 2 1; final 3 1; unroot 1; unroot 2", "collect; alive; unroot 3", "2 1 0 | final2 free1 free2 final3 free3"},
		// What a collection freed is no thing any more; numbers go on.
		{"new; hold 1 1; unroot 1; collect", "count 1; hold 1 1; drop 1 1; root 1; unroot 1; weak 1; final 1 1; new; alive; collect", "-1 -1 -1 -1 -1 -1 -1 2 1 0 |"},
		{"2*new; hold 2 2; unroot 2; collect", "hold 1 2; drop 1 2; hold 2 1; drop 2 1", "-1 -1 -1 -1 |"},
	})
}

func TestP17HeldAgainAfterACollection(t *testing.T) {
	wantGc(t, []gcRow{
		// 2 and 3 circle below 1, which comes back: they are not freed, and die later.
		{"3*new; hold 1 2; hold 2 3; hold 3 1; final 1 2; weak 2; unroot 1; unroot 2; unroot 3", "collect; count 3; drop 3 1; unroot 1", "0 1 1 0 | final1 free1 weak2 free2 free3"},
		{"2*new; hold 1 2; hold 2 1; final 2 2; unroot 1; unroot 2", "collect; hold 2 1; drop 1 2; count 1; unroot 2", "0 2 1 2 0 | final2 free2 free1"},
	})
}

// gcRowOf are n things, each of which holds the next one, the last one also the
// first if it is a ring; then the root lets go of all, the last one first.
func gcRowOf(n int64, ring bool) []impl.GcOp {
	ops := slices.Repeat(gcOps("new"), int(n))
	for i := int64(1); i < n; i++ {
		ops = append(ops, impl.GcOp{Kind: impl.GcHold, A: i, B: i + 1})
	}
	if ring {
		ops = append(ops, impl.GcOp{Kind: impl.GcHold, A: n, B: 1})
	}
	for i := n; i > 0; i-- {
		ops = append(ops, impl.GcOp{Kind: impl.GcUnroot, A: i})
	}
	return ops
}

func freesUpTo(n int64) string {
	out := []string{"|"}
	for i := int64(1); i <= n; i++ {
		out = append(out, fmt.Sprint("free", i))
	}
	return strings.Join(out, " ")
}

// TestP17Rows has as many things in a row as operations allow: they die one by
// the other; in a ring they die by a collection, or by a drop in it.
func TestP17Rows(t *testing.T) {
	ops := gcRowOf((impl.MaxGcOps+1)/3, false)
	answers, events := impl.GcRun(ops)
	if len(ops) != impl.MaxGcOps || gcTold(nil, events) != freesUpTo((impl.MaxGcOps+1)/3) || answers[len(ops)-1] != 0 || answers[len(ops)-2] != 1 {
		t.Error("a row does not die from its beginning on", gcTold(answers, events))
	}
	ring := gcRowOf(660, true)
	if _, events = impl.GcRun(ring); len(events) != 0 {
		t.Error("a ring dies without a collection", gcTold(nil, events))
	}
	answers, events = impl.GcRun(slices.Concat(ring, gcOps("alive; collect; alive")))
	if gcTold(answers[len(ring):], events) != "660 660 0 "+freesUpTo(660) {
		t.Error("a ring is not collected", gcTold(answers[len(ring):], events))
	}
	answers, events = impl.GcRun(slices.Concat(ring, gcOps("drop 660 1; alive; collect")))
	if gcTold(answers[len(ring):], events) != "0 0 0 "+freesUpTo(660) {
		t.Error("a ring that is cut does not die", gcTold(answers[len(ring):], events))
	}
	wantGcRule(t, ops)
	wantGcRule(t, slices.Concat(ring, gcOps("drop 330 331; alive")))
}

func TestP17Wide(t *testing.T) {
	ops := slices.Repeat(gcOps("new"), 600)
	for i := int64(600); i > 1; i-- {
		ops = append(ops, impl.GcOp{Kind: impl.GcHold, A: 1, B: i})
	}
	for i := int64(600); i > 0; i-- {
		ops = append(ops, impl.GcOp{Kind: impl.GcUnroot, A: i})
	}
	_, events := impl.GcRun(ops)
	if len(events) != 600 || events[0].Thing != 1 || events[1].Thing != 600 || events[599].Thing != 2 {
		t.Error(gcTold(nil, events))
	}
	wantGcRule(t, ops)
	wantGcRule(t, slices.Concat(gcOps("new"), slices.Repeat(gcOps("hold 1 1; weak 1"), 999), gcOps("unroot 1")))
}

func TestP17HowManyOperations(t *testing.T) {
	for n, want := range map[int]int{0: 0, 1: 1, impl.MaxGcOps - 1: impl.MaxGcOps - 1, impl.MaxGcOps: impl.MaxGcOps, impl.MaxGcOps + 1: 0, 3 * impl.MaxGcOps: 0} {
		ops := slices.Repeat(gcOps("new"), n)
		if n > 1 {
			ops[1] = impl.GcOp{Kind: impl.GcUnroot, A: 1}
		}
		answers, events := impl.GcRun(ops)
		if len(answers) != want || len(events) != min(1, want/2) {
			t.Error(n, "operations:", len(answers), "answers", len(events), "events")
		}
	}
}

func TestP17ByTheRule(t *testing.T) {
	inPieces(t, 24000, func(t *testing.T, i int) {
		r := rand.New(rand.NewSource(int64(i)))
		wantGcRule(t, drawnGc(r, 10+r.Intn(80)))
	})
}

func TestP17ByTheRuleLong(t *testing.T) {
	inPieces(t, 24, func(t *testing.T, i int) {
		wantGcRule(t, drawnGc(rand.New(rand.NewSource(int64(i)+90000)), impl.MaxGcOps))
	})
}

func TestP17DeathsByTheRule(t *testing.T) {
	inPieces(t, 16000, func(t *testing.T, i int) {
		wantGcRule(t, drawnDeaths(rand.New(rand.NewSource(int64(i)+130000))))
	})
}

// gcLedger is what the root and things hold by what GcRun says of operations.
type gcLedger struct {
	made  int64
	holds []impl.GcOp
	roots []int64
	freed map[int64]int
	final map[int64]int64
	ran   map[int64]int
	weaks map[int64]bool
}

// enter takes an operation that was not refused, and what it told.
func (l *gcLedger) enter(t *testing.T, op impl.GcOp, events []impl.GcEvent) {
	t.Helper()
	isHold := func(other impl.GcOp) bool { return other.A == op.A && other.B == op.B }
	switch op.Kind {
	case impl.GcNew:
		l.made++
		l.roots = append(l.roots, l.made)
	case impl.GcHold:
		l.holds = append(l.holds, op)
	case impl.GcDrop:
		at := slices.IndexFunc(l.holds, isHold)
		l.holds = slices.Delete(l.holds, at, at+1)
	case impl.GcRoot:
		l.roots = append(l.roots, op.A)
	case impl.GcUnroot:
		at := slices.Index(l.roots, op.A)
		l.roots = slices.Delete(l.roots, at, at+1)
	case impl.GcFinal:
		l.final[op.A] = op.B
	case impl.GcWeak:
		l.weaks[op.A] = true
	}
	for i, ev := range events {
		l.event(t, ev, events[i+1:])
	}
}

func (l *gcLedger) event(t *testing.T, ev impl.GcEvent, later []impl.GcEvent) {
	t.Helper()
	switch ev.Kind {
	case impl.EvFinal:
		l.ran[ev.Thing]++
		if l.final[ev.Thing] == 2 {
			l.roots = append(l.roots, ev.Thing)
		}
	case impl.EvWeak:
		if !l.weaks[ev.Thing] || slices.Contains(later, impl.GcEvent{Kind: impl.EvFinal, Thing: ev.Thing}) || !slices.Contains(later, impl.GcEvent{Kind: impl.EvFree, Thing: ev.Thing}) {
			t.Fatal("weak references are cleared ahead of a finalizer, or of a thing that lives", ev)
		}
		l.weaks[ev.Thing] = false
	case impl.EvFree:
		l.freed[ev.Thing]++
		if l.weaks[ev.Thing] {
			t.Fatal("a thing is freed with weak references", ev)
		}
		l.holds = slices.DeleteFunc(l.holds, func(op impl.GcOp) bool { return op.A == ev.Thing })
	}
	if l.ran[ev.Thing] > 1 || l.freed[ev.Thing] > 1 {
		t.Fatal("more than once", ev)
	}
}

// TestP17ReachedAndFreed holds what was freed against what the root reaches,
// after every operation.
func TestP17ReachedAndFreed(t *testing.T) {
	inPieces(t, 2000, func(t *testing.T, i int) {
		r := rand.New(rand.NewSource(int64(i) + 50000))
		ops := drawnGc(r, 40)
		if i%3 == 0 {
			ops = drawnDeaths(r)
		}
		l := gcLedger{freed: map[int64]int{}, final: map[int64]int64{}, ran: map[int64]int{}, weaks: map[int64]bool{}}
		told := 0
		for k, op := range ops {
			answers, events := impl.GcRun(ops[:k+1])
			if answers[k] != -1 {
				l.enter(t, op, events[told:])
			} else if len(events) > told {
				t.Fatal("what is refused tells something:", gcOpsTold(ops[:k+1]))
			}
			told = len(events)
			reach := impl.GcReach(l.made, l.holds, l.roots)
			for _, thing := range reach {
				if l.freed[thing] > 0 {
					t.Fatalf("%d is reached and freed: %s", thing, gcOpsTold(ops[:k+1]))
				}
			}
			if op.Kind == impl.GcCollect && len(reach)+len(l.freed) != int(l.made) {
				t.Fatalf("a collection leaves lost things: %s", gcOpsTold(ops[:k+1]))
			}
		}
	})
}
