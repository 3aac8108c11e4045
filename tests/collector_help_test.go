package tests

import (
	"fmt"
	"math/rand"
	"slices"
	"strconv"
	"strings"
	"testing"

	"loop.example/g00009/impl"
)

func gcWords() []string {
	return []string{"", "new", "hold", "drop", "root", "unroot", "weak", "final", "collect", "count", "alive"}
}

// gcOps are operations as words ("new; hold 1 2; collect"); "4*new" is new four
// times, and a number stands for a Kind that has no word.
func gcOps(text string) []impl.GcOp {
	out := []impl.GcOp{}
	for _, part := range strings.Split(text, ";") {
		words := strings.Fields(part)
		if len(words) == 0 {
			continue
		}
		times := 1
		if n, word, many := strings.Cut(words[0], "*"); many {
			times, words[0] = int(wholeOf(n)), word
		}
		op := impl.GcOp{Kind: int64(slices.Index(gcWords(), words[0]))}
		if op.Kind < 0 {
			op.Kind = wholeOf(words[0])
		}
		if len(words) > 1 {
			op.A = wholeOf(words[1])
		}
		if len(words) > 2 {
			op.B = wholeOf(words[2])
		}
		out = append(out, slices.Repeat([]impl.GcOp{op}, times)...)
	}
	return out
}

func wholeOf(s string) int64 {
	n, err := strconv.ParseInt(s, 10, 64)
	if err != nil {
		panic(err)
	}
	return n
}

func gcOpsTold(ops []impl.GcOp) string {
	out := []string{}
	for _, op := range ops {
		name := strconv.FormatInt(op.Kind, 10)
		if op.Kind > 0 && op.Kind < int64(len(gcWords())) {
			name = gcWords()[op.Kind]
		}
		out = append(out, fmt.Sprint(name, " ", op.A, " ", op.B))
	}
	return strings.Join(out, "; ")
}

// gcTold is what GcRun answers, as words: "1 2 0 | final1 weak1 free1".
func gcTold(answers []int64, events []impl.GcEvent) string {
	out := []string{}
	for _, n := range answers {
		out = append(out, strconv.FormatInt(n, 10))
	}
	out = append(out, "|")
	for _, ev := range events {
		name := "?"
		if ev.Kind >= 1 && ev.Kind <= 3 {
			name = []string{"final", "weak", "free"}[ev.Kind-1]
		}
		out = append(out, name+strconv.FormatInt(ev.Thing, 10))
	}
	return strings.Join(out, " ")
}

// gcRow has operations that come first, those that are asked about, and what
// these answer and tell (as gcTold says it).
type gcRow struct{ before, ops, want string }

func wantGc(t *testing.T, rows []gcRow) {
	t.Helper()
	for _, row := range rows {
		before := gcOps(row.before)
		ops := slices.Concat(before, gcOps(row.ops))
		_, told := impl.GcRun(before)
		answers, events := impl.GcRun(ops)
		if len(answers) != len(ops) || !slices.Equal(events[:len(told)], told) {
			t.Fatalf("%s: %s", gcOpsTold(ops), gcTold(answers, events))
		}
		if got := gcTold(answers[len(before):], events[len(told):]); got != row.want {
			t.Errorf("%s, then %s: %s; wanted %s", row.before, row.ops, got, row.want)
		}
		wantGcRule(t, ops)
	}
}

func wantGcRule(t *testing.T, ops []impl.GcOp) {
	t.Helper()
	answers, events := impl.GcRun(ops)
	byRule := gcByRule(ops)
	if got, want := gcTold(answers, events), gcTold(byRule.answers, byRule.events); got != want {
		t.Fatalf("%s:\n%s\nby the rule\n%s", gcOpsTold(ops), got, want)
	}
}

// gcRule is chapter 15 a second time: it keeps one list of who holds whom, a row
// for each time, the oldest first, and counts when it is asked. The root is 0.
type gcRule struct {
	rows    [][2]int64
	things  []gcThing
	answers []int64
	events  []impl.GcEvent
}

type gcThing struct {
	freed, ran   bool
	weaks, final int64
}

func gcByRule(ops []impl.GcOp) *gcRule {
	g := &gcRule{things: make([]gcThing, 1)}
	if len(ops) > 2000 {
		return g
	}
	for _, op := range ops {
		g.answers = append(g.answers, g.answer(op))
	}
	return g
}

func (g *gcRule) isAlive(n int64) bool {
	return n > 0 && n < int64(len(g.things)) && !g.things[n].freed
}

// count passes by the rows of freed things that have not let go yet.
func (g *gcRule) count(of int64) int64 {
	n := int64(0)
	for _, row := range g.rows {
		if row[1] == of && (row[0] == 0 || g.isAlive(row[0])) {
			n++
		}
	}
	return n
}

// less takes the newest row away, so that an older one keeps its place.
func (g *gcRule) less(by int64, of int64) bool {
	for i, row := range slices.Backward(g.rows) {
		if row == [2]int64{by, of} {
			g.rows = slices.Delete(g.rows, i, i+1)
			return true
		}
	}
	return false
}

func (g *gcRule) tell(kind int64, thing int64) {
	g.events = append(g.events, impl.GcEvent{Kind: kind, Thing: thing})
}

func (g *gcRule) answer(op impl.GcOp) int64 {
	switch op.Kind {
	case 1:
		g.things = append(g.things, gcThing{})
		n := int64(len(g.things)) - 1
		g.rows = append(g.rows, [2]int64{0, n})
		return n
	case 8:
		return g.collect()
	case 10:
		return g.howManyAlive()
	}
	if op.Kind < 1 || op.Kind > 10 || !g.isAlive(op.A) || (op.Kind == 2 || op.Kind == 3) && !g.isAlive(op.B) {
		return -1
	}
	switch op.Kind {
	case 2:
		g.rows = append(g.rows, [2]int64{op.A, op.B})
		return g.count(op.B)
	case 3:
		return g.leave(op.A, op.B)
	case 4:
		g.rows = append(g.rows, [2]int64{0, op.A})
	case 5:
		return g.leave(0, op.A)
	case 6:
		g.things[op.A].weaks++
		return g.things[op.A].weaks
	case 7:
		if op.B != 0 && op.B != 1 && op.B != 2 {
			return -1
		}
		g.things[op.A].final = op.B
		return op.B
	}
	return g.count(op.A)
}

func (g *gcRule) howManyAlive() int64 {
	n := int64(0)
	for i := range g.things {
		if g.isAlive(int64(i)) {
			n++
		}
	}
	return n
}

func (g *gcRule) leave(by int64, of int64) int64 {
	if !g.less(by, of) {
		return -1
	}
	if g.count(of) == 0 {
		g.die(of)
	}
	return g.count(of)
}

func (g *gcRule) finish(n int64) {
	if thing := &g.things[n]; thing.final > 0 && !thing.ran {
		thing.ran = true
		g.tell(1, n)
		if thing.final == 2 {
			g.rows = append(g.rows, [2]int64{0, n})
		}
	}
}

func (g *gcRule) clear(n int64) {
	if g.things[n].weaks > 0 {
		g.tell(2, n)
	}
}

func (g *gcRule) free(n int64) {
	g.things[n].freed = true
	g.tell(3, n)
}

func (g *gcRule) die(n int64) {
	g.finish(n)
	if g.count(n) > 0 {
		return
	}
	g.clear(n)
	g.free(n)
	for {
		at := slices.IndexFunc(g.rows, func(row [2]int64) bool { return row[0] == n })
		if at < 0 {
			return
		}
		of := g.rows[at][1]
		for g.less(n, of) {
		}
		if g.isAlive(of) && g.count(of) == 0 {
			g.die(of)
		}
	}
}

// unreached goes over all rows until nothing more is reached.
func (g *gcRule) unreached() []int64 {
	got := map[int64]bool{0: true}
	for more := true; more; {
		more = false
		for _, row := range g.rows {
			if got[row[0]] && !got[row[1]] {
				got[row[1]], more = true, true
			}
		}
	}
	out := []int64{}
	for n := range int64(len(g.things)) {
		if g.isAlive(n) && !got[n] {
			out = append(out, n)
		}
	}
	return out
}

func (g *gcRule) collect() int64 {
	for _, n := range g.unreached() {
		g.finish(n)
	}
	dead := g.unreached()
	for _, n := range dead {
		g.clear(n)
	}
	for _, n := range dead {
		g.free(n)
		g.rows = slices.DeleteFunc(g.rows, func(row [2]int64) bool { return row[0] == n })
	}
	return int64(len(dead))
}

// drawnGc draws operations over few things, so that they meet often; the draws
// of a seed differ in how much is held, dropped and collected.
func drawnGc(r *rand.Rand, n int) []impl.GcOp {
	most := 1 + r.Intn(8)
	weights := make([]int, 11)
	sum := 0
	for kind := 1; kind <= 10; kind++ {
		weights[kind] = r.Intn([]int{0, 4, 20, 10, 2, 12, 2, 5, 2, 2, 2}[kind])
		sum += weights[kind]
	}
	out := slices.Repeat([]impl.GcOp{{Kind: impl.GcNew}}, r.Intn(most+1))
	for len(out) < n {
		at, kind := r.Intn(sum+1), int64(0)
		for kind < 10 && at >= 0 {
			kind++
			at -= weights[kind]
		}
		op := impl.GcOp{Kind: kind, A: int64(r.Intn(most) + 1), B: int64(r.Intn(most) + 1)}
		if kind == impl.GcFinal {
			op.B = int64(r.Intn(4))
		}
		if r.Intn(50) == 0 {
			op = impl.GcOp{Kind: int64(r.Intn(14) - 1), A: int64(r.Intn(20) - 5), B: int64(r.Intn(20) - 5)}
		}
		out = append(out, op)
	}
	return out
}

// drawnDeaths draws things that hold one another mostly without a ring, with weak
// references and finalizers; the root lets go of all, so that many die by few.
func drawnDeaths(r *rand.Rand) []impl.GcOp {
	n := 3 + r.Intn(7)
	out := slices.Repeat([]impl.GcOp{{Kind: impl.GcNew}}, n)
	names := r.Perm(n)
	pick := func() int64 { return int64(r.Intn(n) + 1) }
	for range n + r.Intn(3*n) {
		a, b := r.Intn(n), r.Intn(n)
		if a > b && r.Intn(40) > 0 {
			a, b = b, a
		}
		if a != b {
			out = append(out, impl.GcOp{Kind: impl.GcHold, A: int64(names[a] + 1), B: int64(names[b] + 1)})
		}
	}
	for range r.Intn(n) {
		out = append(out, impl.GcOp{Kind: impl.GcWeak, A: pick()}, impl.GcOp{Kind: impl.GcFinal, A: pick(), B: int64(r.Intn(3))})
	}
	for range r.Intn(3) {
		out = append(out, impl.GcOp{Kind: impl.GcDrop, A: pick(), B: pick()})
	}
	for _, at := range slices.Backward(names) {
		out = append(out, impl.GcOp{Kind: impl.GcUnroot, A: int64(at + 1)})
	}
	for range r.Intn(4) {
		out = append(out, impl.GcOp{Kind: impl.GcUnroot, A: pick()}, impl.GcOp{Kind: impl.GcCount, A: pick()})
	}
	return append(out, impl.GcOp{Kind: impl.GcCollect}, impl.GcOp{Kind: impl.GcAlive})
}
