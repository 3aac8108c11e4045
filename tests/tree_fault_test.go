package tests

import (
	"fmt"
	"strings"
	"testing"

	"loop.example/g00009/impl"
)

func TestP5FaultsOfTokens(t *testing.T) {
	for _, bad := range noTexts() {
		wantNoTree(t, bad, impl.FaultText, 0)
	}
	wantNoTree(t, "a\r\n", impl.FaultText, 0)
	wantNoTree(t, "a\n\tb", impl.FaultIndent, 2)
	wantNoTree(t, "if a:\n  b\n c", impl.FaultIndent, 3)
	wantNoTree(t, "(\n]", impl.FaultBracket, 2)
	wantNoTree(t, "\n(", impl.FaultBracket, 2)
	wantNoTree(t, "'a", impl.FaultString, 1)
	wantNoTree(t, "f'{'", impl.FaultString, 1)
	wantNoTree(t, "01", impl.FaultNumber, 1)
	wantNoTree(t, "$", impl.FaultChar, 1)
	wantNoTree(t, strings.Repeat("a", 61), impl.FaultLarge, 1)
	wantNoTree(t, strings.Repeat("(", 61), impl.FaultLarge, 1)
	// Whatever else is wrong ahead of it.
	wantNoTree(t, "+\n1 = 2\n$", impl.FaultChar, 3)
	wantNoTree(t, "def f(a, a): break\n(", impl.FaultBracket, 2)
	wantNoTree(t, strings.Repeat("-", 101)+"a\n'", impl.FaultString, 2)
	for _, src := range keepSources() {
		_, want := impl.Tokens(src)
		tree, fault := impl.Parse(src)
		if want.Code != 0 && (fault != want || len(tree.Nodes) != 0) {
			t.Errorf("%s: %v; wanted %v", shown(src), fault, want)
		}
	}
}

func TestP5FirstFault(t *testing.T) {
	for _, c := range []struct {
		src  string
		code int64
		line int64
	}{
		// The token with which it can't go on, not where the thing began.
		{"a = (b +\n\n) * c", impl.FaultForm, 3}, {"f(a\n,\n,b)", impl.FaultForm, 3}, {"f(a=1,\nb\n)", impl.FaultForm, 3}, {"f(a=1,\nb\n.c)", impl.FaultForm, 3}, {"f(a=1,\n*b)", impl.FaultForm, 2}, {"(a not\nb)", impl.FaultForm, 2}, {"(a\nnot\nnot in b)", impl.FaultForm, 3},
		{"{a: b,\nc\n}", impl.FaultForm, 3}, {"{a,\nb\n:c}", impl.FaultForm, 3}, {"{a,\n**b}", impl.FaultForm, 2}, {"(*a\n)", impl.FaultForm, 2}, {"[a\nfor b\nin c\n, d]", impl.FaultForm, 4}, {"f(a\nfor b in c\n,)", impl.FaultForm, 3}, {"f(a,\nb\nfor b in c)", impl.FaultForm, 3},
		{"def f(a=1,\nb\n,c=2): pass", impl.FaultForm, 3}, {"def f(*\n): pass", impl.FaultForm, 2}, {"def f(*\n,\n): pass", impl.FaultForm, 3}, {"def f(**a\n,\nb): pass", impl.FaultForm, 3}, {"(lambda **a\n,\nb: c)", impl.FaultForm, 2}, {"(lambda a\n,\n: c)", impl.FaultForm, 3},
		{"(a\n:=\nb,\nc)", impl.FaultForm, 3}, {"(a.b\n:= c)", impl.FaultForm, 2}, {"a[\n]", impl.FaultForm, 2}, {"a[b\n:c\n:d\n:e]", impl.FaultForm, 4}, {"*a\nb", impl.FaultForm, 1}, {"*a\\\n\\\n= b", impl.FaultForm, 3}, {"(a if b\n, c)", impl.FaultForm, 2}, {"(yielded\nyielded)", impl.FaultForm, 2},
		{"a\n\n  b", impl.FaultForm, 3}, {"if a:\n\n\nb", impl.FaultForm, 4}, {"if a:\n", impl.FaultForm, 1}, {"if a: b\n\n\nelse\n", impl.FaultForm, 4}, {"class A\n\n", impl.FaultForm, 1}, {"try: a\n# note\n", impl.FaultForm, 1}, {"@a\n\n\n", impl.FaultForm, 1}, {"if a:\n b\n  \n\n  c", impl.FaultForm, 5},
		{"return", impl.FaultForm, 1}, {"a\nbreak\nreturn", impl.FaultForm, 2}, {"from a \\\nimport \\\n(b)", impl.FaultForm, 3}, {"global \\\na, \\\n1", impl.FaultForm, 3}, {"'''\n\n''' \\\nb", impl.FaultForm, 4}, {"(\n'''\n''' b)", impl.FaultForm, 3},
		// The first of several.
		{"a +\n1 = b", impl.FaultForm, 1}, {"1 = b\na +", impl.FaultTarget, 1}, {"1 = + ", impl.FaultTarget, 1}, {"1 + = 2", impl.FaultForm, 1}, {"f(1 = 2) = 3", impl.FaultForm, 1}, {"a = 1 = +", impl.FaultTarget, 1}, {"a b = 1 = 2", impl.FaultForm, 1}, {"break; 1 = 2", impl.FaultForm, 1}, {"1 = 2; break", impl.FaultTarget, 1},
		{"for 1 in +: a", impl.FaultTarget, 1}, {"for + in 1: a", impl.FaultForm, 1}, {"[a for 1 in +]", impl.FaultTarget, 1}, {"[+ for 1 in a]", impl.FaultForm, 1}, {"with a as 1, +: b", impl.FaultTarget, 1}, {"def f(a, a): 1 = 2", impl.FaultForm, 1}, {"def f(b=[c for 1 in d], b=e): pass", impl.FaultTarget, 1}, {"f'{+}' = 1 = 2", impl.FaultForm, 1}, {"1 = f'{+}'", impl.FaultTarget, 1},
		{"(\n1) = (\n2) = 3", impl.FaultTarget, 1}, {"a = (\nb) = (\nc +\nd) = e", impl.FaultTarget, 2},
	} {
		wantNoTree(t, c.src, c.code, c.line)
	}
}

func TestP5LineOfBadTargets(t *testing.T) {
	for _, c := range []struct {
		src  string
		line int64
	}{
		{"1 = a", 1}, {"\n\n1 = a", 3}, {"(\n1\n) = a", 1}, {"(a,\n1\n) = b", 1}, {"[\na,\n(b,\n1)] = c", 1}, {"a = \\\n1 \\\n= \\\nb", 2}, {"a = b = \\\n(\nc, 1) = d", 2}, {"\\\na, \\\n1 \\\n= b", 2}, {"a; \\\n1 = b", 2}, {"'''\n\n''' = a", 1},
		{"f(\n) += 1", 1}, {"\\\n\\\na, b \\\n+= 1", 3}, {"if a: \\\n1 = b", 2}, {"if a:\n b\n 1 = c", 3}, {"lambda \\\n: a = b", 1}, {"lambda a=1 \\\n: a = b", 1},
		{"for \\\n1 in a: b", 2}, {"for (\n1\n) in a: b", 1}, {"for a, \\\n1 in b: c", 1}, {"for \\\n*a, \\\n*b \\\nin c: d", 2}, {"[a for\n1\nin b]", 2}, {"[a for a in b\nfor\n(c,\n1) in d]", 3}, {"f(a for\n-b in c)", 2}, {"{a: b for\na()\nin c}", 2},
		{"with a as \\\n1: b", 2}, {"with a as b, \\\nc as \\\n(d,\n1): e", 3}, {"with a as (\n1): b", 1}, {"del \\\n1", 2}, {"del a, \\\n1", 1}, {"del \\\n(a,\n*b)", 2}, {"x = [i for i in (a,\nb) if [j for\n1 in k]]", 3},
		{"def f():\n (\n yield) = a", 2}, {"class A:\n  def f(self):\n    None = self", 3},
	} {
		wantNoTree(t, c.src, impl.FaultTarget, c.line)
		wantNoTree(t, c.src+"\n+", impl.FaultTarget, c.line)
		wantNoTree(t, "\n#\n"+c.src, impl.FaultTarget, c.line+2)
	}
}

func TestP5MostNodes(t *testing.T) {
	// A statement of a name has two nodes, the file one more.
	even := strings.Repeat("a\n", 2997)
	for _, c := range []struct {
		src   string
		nodes int
	}{
		{even + "-a\npass\npass", 6000}, {even + "-a\na", 6000}, {strings.Repeat("pass;", 2999) + "\n", 3000}, {"[" + strings.Repeat("a,", 5996) + "a]", 6000}, {"f(" + strings.Repeat("a,", 5995) + "a)", 6000}, {strings.Repeat("a[:]\n", 857), 6000}, {strings.Repeat("(),", 5000), 5003},
	} {
		tree, fault := impl.Parse(c.src)
		if fault != (impl.Fault{}) || len(tree.Nodes) != c.nodes {
			t.Errorf("%s: %d nodes, fault %v; wanted %d", shown(c.src), len(tree.Nodes), fault, c.nodes)
			continue
		}
		if c.nodes == impl.MaxNodes {
			// With one more, and with many.
			wantNoTree(t, c.src+"\npass", impl.FaultDeep, 0)
			wantNoTree(t, "pass\n"+c.src, impl.FaultDeep, 0)
		}
	}
	wantNoTree(t, strings.Repeat("a;", 8192), impl.FaultDeep, 0)
	wantNoTree(t, strings.Repeat("a[:];", 3276), impl.FaultDeep, 0)
	wantNoTree(t, "["+strings.Repeat("a,", 5997)+"a]", impl.FaultDeep, 0)
	// When all has been read: another fault is ahead of it.
	wantNoTree(t, strings.Repeat("a;", 8000)+"+", impl.FaultForm, 1)
	wantNoTree(t, strings.Repeat("a;", 8000)+"1=a", impl.FaultTarget, 1)
	wantNoTree(t, strings.Repeat("a\n", 8000)+"break", impl.FaultForm, 8001)
}

// deepTexts are texts with n nodes within one another below the file, in ways
// that differ; an NExpr, and a name at the end, are two of them.
func deepTexts(n int) map[string]string {
	times := strings.Repeat
	texts := map[string]string{
		"signs": times("-", n-2) + "a", "nots": times("not ", n-2) + "a", "sums": "a" + times("+a", n-2), "powers": "a" + times("**a", n-2), "points": "a" + times(".a", n-2), "calls": "a" + times("()", n-2), "indexes": "a" + times("[0]", n-2),
		"ors": "a" + times(" or a", n-2), "conditions": times("a if a else ", n-2) + "a", "lambdas": times("lambda:", n-2) + "a", "mixed": times("-", 30) + "a" + times("*a", n-32),
	}
	if n%2 == 0 {
		// An elif is an If in a block; in the last one's block are two more.
		texts["elifs"] = "if a: b\n" + times("elif a: b\n", (n-4)/2)
		texts["withs"] = "with " + times("a, ", (n-4)/2) + "a: b"
	}
	return texts
}

func TestP5MostDeep(t *testing.T) {
	for name, src := range deepTexts(100) {
		tree, fault := impl.Parse(src)
		if fault != (impl.Fault{}) {
			t.Errorf("%s: %v", name, fault)
			continue
		}
		if deep := deepest(branchOf(tree)); deep != 100 {
			t.Errorf("%s: %d deep", name, deep)
		}
	}
	for _, src := range deepTexts(101) {
		wantNoTree(t, src, impl.FaultDeep, 0)
		wantNoTree(t, "a\n"+src, impl.FaultDeep, 0)
		wantNoTree(t, src+"\n+", impl.FaultForm, int64(2+strings.Count(src, "\n")))
		wantNoTree(t, src+"\n1 = a", impl.FaultTarget, int64(2+strings.Count(src, "\n")))
	}
	wantNoTree(t, deepTexts(102)["elifs"], impl.FaultDeep, 0)
	wantNoTree(t, deepTexts(102)["withs"], impl.FaultDeep, 0)
	// As deep as a text can be.
	for _, src := range []string{strings.Repeat("-", impl.MaxText-1) + "a", strings.Repeat("not ", 4095) + "a", strings.Repeat("lambda:", 2300) + "a", "a" + strings.Repeat("**a", 5000), "a" + strings.Repeat(".a", 8000), "a" + strings.Repeat("()", 8000), strings.Repeat("a if a else ", 1300) + "a", "if a:b\n" + strings.Repeat("elif a:b\n", 1800), "with " + strings.Repeat("a,", 8000) + "a:b"} {
		wantNoTree(t, src, impl.FaultDeep, 0)
	}
	// Brackets alone are no nodes.
	wantTree(t, strings.Repeat("(", 60)+"a"+strings.Repeat(")", 60), "Expr(Name:a)")
}

// TestP5EveryBeginning takes texts apart: each beginning of one without a
// fault has a fault, if any, at its end.
func TestP5EveryBeginning(t *testing.T) {
	for _, src := range append(programs()[:3], showTexts()...) {
		for i, sign := range src {
			toks, fault := impl.Tokens(src[:i])
			// Between tokens, and in no bracket.
			if sign != ' ' && sign != '\n' || fault.Code != 0 {
				continue
			}
			last := toks[len(toks)-1].Line
			if _, fault := impl.Parse(src[:i]); fault.Code != 0 && fault != (impl.Fault{Code: impl.FaultForm, Line: last}) {
				t.Errorf("%q: %v; wanted none, or one in line %d", src[:i], fault, last)
			}
		}
	}
}

func TestP5EveryLineOfAFault(t *testing.T) {
	// A fault behind n lines is told with the line, whatever they are.
	for _, ahead := range []string{"", "a\n", "# note\n", "'''\n\n'''\n", "(a,\n\n b)\n", "if a:\n  b\n", "a \\\n + b\n"} {
		lines := int64(strings.Count(ahead, "\n"))
		wantNoTree(t, ahead+"a b", impl.FaultForm, lines+1)
		wantNoTree(t, ahead+"1 = b", impl.FaultTarget, lines+1)
		wantNoTree(t, ahead+"f'{+}'", impl.FaultForm, lines+1)
		wantNoTree(t, ahead+fmt.Sprint(strings.Repeat("-", 101), "a"), impl.FaultDeep, 0)
	}
}
