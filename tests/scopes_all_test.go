package tests

import (
	"strings"
	"testing"

	"loop.example/g00009/impl"
)

// wantScopeRuleOf wants what the rules say of a text, when that has a tree.
func wantScopeRuleOf(t *testing.T, src string) string {
	t.Helper()
	tree, fault := impl.Parse(src)
	if fault.Code != 0 {
		return "no tree"
	}
	return wantScopeRule(t, src, tree)
}

func TestP6ProgramsByTheRules(t *testing.T) {
	for _, src := range append(treeSources(), "") {
		wantScopeRuleOf(t, src)
	}
	counts := inParallel(8000, func(i int) string {
		return wantScopeRuleOf(t, newScopeWriter(int64(i)).program())
	})
	if counts["none"] < 4000 || counts["fault"] < 2000 || counts["no tree"] > 0 {
		t.Error("too few of a kind:", counts)
	}
}

func TestP6TextsOfTheRows(t *testing.T) {
	counts := inParallel(4000, func(i int) string {
		w := newRowWriter(int64(i) + 70000)
		src := laid(w.r, w.write("file", 3+i%6))
		if len(src) > 1500 {
			return "long"
		}
		return wantScopeRuleOf(t, src)
	})
	if counts["none"] < 1500 || counts["fault"] < 50 {
		t.Error("too few of a kind:", counts)
	}
}

// nestings have a hole, each with something that its scope does with x. The hole
// of a stmt's body takes statements, all others take expressions.
func nestings() (bodies []string, stmts []string, exprs []string) {
	for _, first := range []string{"", "x = 0\n  ", "global x\n  ", "nonlocal x\n  ", "global x\n  x = 0\n  ", "nonlocal x\n  x = 0\n  "} {
		bodies = append(bodies, "def f():\n  "+first+"HOLE")
	}
	bodies = append(bodies, "def f(x):\n  HOLE")
	for _, first := range []string{"", "x = 0\n  ", "global x\n  ", "nonlocal x\n  "} {
		bodies = append(bodies, "class K:\n  "+first+"HOLE")
	}
	stmts = []string{"def f(a=HOLE): x = 0", "@(HOLE)\ndef f(x): pass", "class K(HOLE): x = 0", "@(HOLE)\nclass x: pass"}
	exprs = []string{"(lambda: HOLE)", "(lambda x: HOLE)", "(lambda x=HOLE: x)", "[x for y[HOLE] in 0]"}
	for _, target := range []string{"x", "y"} {
		exprs = append(exprs, "[HOLE for "+target+" in 0]", "[0 for "+target+" in HOLE]", "[0 for i in 0 for "+target+" in HOLE]", "(0 for "+target+" in 0 if HOLE)")
	}
	return bodies, stmts, exprs
}

// allNestings are all texts of so many nestings within one another.
func allNestings(depth int, expression bool) []string {
	if depth == 0 {
		if expression {
			return []string{"x", "(x := 0)", "(yield)", "(lambda: x)"}
		}
		return []string{"x", "x = 0", "(x := 0)", "(yield)", "nonlocal x", "global x"}
	}
	bodies, stmts, exprs := nestings()
	var out []string
	fill := func(list []string, within []string) {
		for _, text := range list {
			for _, inner := range within {
				out = append(out, strings.Replace(text, "HOLE", inner, 1))
			}
		}
	}
	inner := allNestings(depth-1, true)
	fill(exprs, inner)
	if expression {
		return out
	}
	fill(stmts, inner)
	var indented []string
	for _, text := range allNestings(depth-1, false) {
		indented = append(indented, strings.ReplaceAll(text, "\n", "\n  "))
	}
	fill(bodies, indented)
	return out
}

// TestP6AllNestings has every scope that does something with x in every other one,
// and in that again.
func TestP6AllNestings(t *testing.T) {
	for depth := range 4 {
		list := allNestings(depth, false)
		counts := inParallel(len(list), func(i int) string { return wantScopeRuleOf(t, list[i]) })
		if counts["none"] < len(list)/4 || depth > 0 && counts["fault"] < len(list)/20 {
			t.Error("too few of a kind:", depth, counts)
		}
	}
}
