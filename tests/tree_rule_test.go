package tests

import (
	"math/rand"
	"slices"
	"strings"
	"sync"
	"testing"

	"loop.example/g00009/impl"
)

// wantTreeRule wants what the second parser answers, and of a tree what the
// second writer writes; it answers the code of the fault.
func wantTreeRule(t *testing.T, src string) int64 {
	t.Helper()
	tree, fault := impl.Parse(src)
	want, wantFault := parseRule(src)
	if fault != wantFault {
		t.Errorf("%q: fault %v; wanted %v", src, fault, wantFault)
		return fault.Code
	}
	if !sameTree(tree, want) {
		t.Errorf("%q:\n%s; wanted\n%s", src, branchOf(tree).told(true), branchOf(want).told(true))
		return fault.Code
	}
	if fault.Code == 0 {
		wantShowRule(t, tree)
	}
	return fault.Code
}

// wantShowRule wants the text that the second writer writes, when that is read
// as the tree, and none otherwise.
func wantShowRule(t *testing.T, tree impl.Tree) bool {
	t.Helper()
	want, ok := "", isPostorder(tree) && lines(tree) > 0
	if ok {
		want, ok = showRule(tree)
	}
	if ok {
		again, fault := impl.Parse(want)
		ok = fault.Code == 0 && sameButLines(again, tree)
	}
	if !ok {
		want = ""
	}
	text, shown := impl.Show(tree)
	if text != want || shown != ok {
		t.Errorf("%v:\nshown as %q %v; wanted %q %v", tree, text, shown, want, ok)
	}
	if impl.TreeOk(tree) != ok {
		t.Errorf("%v: TreeOk is not %v", tree, ok)
	}
	return ok
}

// lines is the least Line of a tree.
func lines(tree impl.Tree) int64 {
	least := int64(1)
	for _, n := range tree.Nodes {
		least = min(least, n.Line)
	}
	return least
}

// isPostorder tells whether each node's Kids are just those that were not
// taken yet, the last ones, and all hang on the last node.
func isPostorder(tree impl.Tree) bool {
	var open []int64
	for i, n := range tree.Nodes {
		first := len(open) - len(n.Kids)
		if first < 0 || !slices.Equal(open[first:], n.Kids) {
			return false
		}
		open = append(open[:first:first], int64(i))
	}
	return len(open) == 1
}

// inParallel calls f for each number below n, on several workers, and answers
// how often f answered what.
func inParallel(n int, f func(i int) string) map[string]int {
	const workers = 8
	var lock sync.Mutex
	var done sync.WaitGroup
	counts := map[string]int{}
	for worker := range workers {
		done.Go(func() {
			for i := worker; i < n; i += workers {
				word := f(i)
				lock.Lock()
				counts[word]++
				lock.Unlock()
			}
		})
	}
	done.Wait()
	return counts
}

func faultWord(code int64) string {
	return []string{"none", "text", "indent", "bracket", "string", "number", "char", "large", "form", "target", "deep"}[code]
}

func TestP5TextsOfTheRows(t *testing.T) {
	counts := inParallel(3000, func(i int) string {
		w := newRowWriter(int64(i))
		src := laid(w.r, w.write("file", 3+i%6))
		if len(src) > 1500 {
			return "long"
		}
		return faultWord(wantTreeRule(t, src))
	})
	if counts["none"] < 1500 {
		t.Error("too few texts without a fault:", counts)
	}
}

func TestP5TextsWithAFault(t *testing.T) {
	words := allWords()
	counts := inParallel(6000, func(i int) string {
		w := newRowWriter(int64(i))
		src := laid(w.r, changed(w.r, w.write("file", 3+i%5), words))
		if len(src) > 1000 {
			return "long"
		}
		return faultWord(wantTreeRule(t, src))
	})
	if counts["form"] < 1000 || counts["target"] < 50 || counts["none"] < 500 {
		t.Error("too few faults:", counts)
	}
}

// TestP5EachRow writes texts that begin with each symbol of the rows, so that
// all of them are tried alone and within others.
func TestP5EachRow(t *testing.T) {
	around := map[string][2]string{
		"e": {"x =", ""}, "list": {"", ""}, "args": {"f (", ")"}, "bargs": {"class A (", ") : pass"}, "lparams": {"lambda", ": x"}, "dparams": {"def f (", ") : pass"}, "subscript": {"a [", "]"}, "pattern": {"match x : LINE INDENT case", ": pass LINE DEDENT"}, "clause": {"[ e", "]"}, "fortarget": {"for", "in x : pass"}, "pairs": {"{", "}"}, "items": {"{", "}"}, "many": {"(", ")"}, "side": {"a", ""}, "assign": {"", ""}, "sides": {"not a", ""}, "round": {"", ". a"},
	}
	symbols := []string{"e", "list", "args", "bargs", "lparams", "dparams", "subscript", "pattern", "clause", "fortarget", "pairs", "items", "many", "side", "assign", "sides", "round"}
	counts := inParallel(len(symbols)*250, func(i int) string {
		name := symbols[i%len(symbols)]
		symbol := name + "^"
		if name == "pattern" {
			symbol = name
		}
		w := newRowWriter(int64(i))
		toks := slices.Concat(strings.Fields(around[name][0]), w.write(symbol, 1+i%6), strings.Fields(around[name][1]))
		if i%3 == 0 {
			toks = changed(w.r, toks, allWords())
		}
		src := laid(w.r, append(toks, "LINE"))
		if len(src) > 600 {
			return "long"
		}
		return faultWord(wantTreeRule(t, src))
	})
	if counts["none"] < 2000 {
		t.Error("too few texts without a fault:", counts)
	}
}

// TestP5AllShortTexts tries all rows of a few tokens.
func TestP5AllShortTexts(t *testing.T) {
	for _, c := range []struct {
		words string
		most  int
	}{
		{"a 1 , * = += ( )", 4}, {"a not in is < or - **", 4}, {"a if else lambda : ,", 5}, {"for a in , * 1 ( )", 4}, {"yield a = , from ( )", 4}, {"del a , * ( ) .b [1:]", 4}, {"if a : LINE INDENT else DEDENT", 4}, {"f( ) a , * ** k= for", 4}, {"a[ ] b : , * (", 4}, {"{ } a : , * ** for", 4}, {"import from a as , .", 4}, {"raise assert global a , from", 4},
	} {
		words := strings.Fields(c.words)
		var texts [][]string
		last := [][]string{nil}
		for range c.most {
			var next [][]string
			for _, text := range last {
				for _, word := range words {
					next = append(next, append(slices.Clip(text), word))
				}
			}
			texts, last = append(texts, next...), next
		}
		inParallel(len(texts), func(i int) string {
			r := rand.New(rand.NewSource(int64(i)))
			return faultWord(wantTreeRule(t, laid(r, texts[i])))
		})
	}
}

// TestP5AllShortForms tries all that a few tokens can be within others.
func TestP5AllShortForms(t *testing.T) {
	for _, c := range []struct{ ahead, words, behind string }{
		{"def f (", "a b = * , **", ") : pass"}, {"lambda", "a b = * , **", ": x"}, {"match x : LINE INDENT case", "a _ , * | as ( )", ": pass"}, {"match x : LINE INDENT case {", "1 a : , ** .b", "} : pass"}, {"match x : LINE INDENT case A (", "a k = , * 1", ") : pass"}, {"match x : LINE INDENT case", "a | as [ ] 1", "if b : c"},
		{"class A (", "a k = , * for", ") : pass"}, {"with", "a as , * 1 (", ": b"}, {"try : a LINE", "except finally else : a LINE as", "LINE"}, {"while a : LINE INDENT", "break pass LINE DEDENT else :", "LINE"}, {"def f ( ) :", "yield return ; a = from ,", "LINE"}, {"@ a LINE", "def class f ( ) : pass @ LINE", "LINE"}, {"x = f' '", "a . b ( ) +", ""},
		{"[ a", "for b in if , else", "]"}, {"(", "a := yield , * for", ")"}, {"for", "a , in * . b", ": c"}, {"match a , : LINE INDENT", "case b : LINE DEDENT if", "pass"},
	} {
		words := strings.Fields(c.words)
		total := len(words) * len(words) * len(words) * len(words)
		inParallel(total, func(i int) string {
			toks := strings.Fields(c.ahead)
			for rest := i; len(toks) < len(strings.Fields(c.ahead))+4; rest /= len(words) {
				toks = append(toks, words[rest%len(words)])
			}
			r := rand.New(rand.NewSource(int64(i)))
			return faultWord(wantTreeRule(t, laid(r, append(toks, strings.Fields(c.behind)...))))
		})
	}
}

func TestP5ProgramsByTheRows(t *testing.T) {
	list := append(programs(), showTexts()...)
	inParallel(len(list), func(i int) string {
		src := list[i]
		wantTreeRule(t, src)
		// With a byte taken out or put in there are faults of every kind.
		r := rand.New(rand.NewSource(int64(i)))
		for range 25 {
			at := r.Intn(len(src) + 1)
			sign := []string{" ", "\n", "(", ")", "=", ",", ":", "*", "a", "1", ".", " if ", " for ", " in ", " yield "}[r.Intn(15)]
			wantTreeRule(t, src[:at]+sign+src[at:])
			wantTreeRule(t, src[:at]+src[min(at+1, len(src)):])
		}
		return ""
	})
}
