package tests

import (
	"strings"
	"testing"

	"loop.example/g00009/impl"
)

func TestP6DeclaredParameters(t *testing.T) {
	for _, word := range []string{"global", "nonlocal"} {
		for _, params := range []string{"a", "b, a", "a=1", "*a", "**a", "*, a", "*, a=1", "*b, a", "b, *a, **c"} {
			wantScopeFault(t, "def f("+params+"):\n  pass\n  "+word+" a", 3)
			wantScopeFault(t, "def g(a):\n  def f("+params+"):\n    "+word+" a", 3)
		}
		wantScopeFault(t, "def g(a):\n  def f(a):\n    if b:\n      c\n      "+word+" c, a", 5)
		wantScopeFault(t, "def f(\n  a\n):\n  "+word+" \\\n a", 5)
		// The first of the declarations.
		wantScopeFault(t, "def f(a):\n  "+word+" a\n  "+word+" a", 2)
		wantScopeFault(t, "class K:\n  def f(self, a):\n\n    "+word+" a", 4)
	}
	// A parameter of the scope around, or of one within.
	wantNoScopeFault(t, "def f(a):\n  def g(): nonlocal a", "def f(a):\n  def g(): global a", "def f(a):\n  class K:\n    global a", "def f(a):\n  class K:\n    nonlocal a", "def f():\n  global a\n  def g(a): pass", "def f():\n  global a\n  lambda a: a", "def f(b):\n  global a", "def f(): global f", "global a\nlambda a: 0")
}

func TestP6DeclaredBoth(t *testing.T) {
	wantScopeFault(t, "def f(a):\n  def g():\n    global a\n    nonlocal a", 4)
	wantScopeFault(t, "def f(a):\n  def g():\n    nonlocal a\n    global a", 4)
	wantScopeFault(t, "def f(a):\n  def g():\n    nonlocal a\n    nonlocal a\n    if b:\n      global b, a\n    global a", 6)
	wantScopeFault(t, "def f(a):\n  def g(): global a; nonlocal a", 2)
	wantScopeFault(t, "def f(a):\n  class K:\n    global a\n    nonlocal a", 4)
	wantScopeFault(t, "def f(a, b):\n  def g():\n    global a\n    nonlocal b\n    nonlocal a", 5)
	// A nonlocal one that nothing binds is one by itself.
	wantScopeFault(t, "def f():\n  global a\n  nonlocal a", 3)
	wantScopeFault(t, "def f():\n  nonlocal a\n  global a", 2)
	wantScopeFault(t, "global a\nnonlocal a", 2)
	// In two scopes.
	wantNoScopeFault(t, "def f(a):\n  def g(): global a\n  def h(): nonlocal a", "def f(a):\n  def g():\n    nonlocal a\n    def h(): global a", "def f(a):\n  def g():\n    class K:\n      global a\n    nonlocal a", "def f(a, b):\n  def g():\n    global a\n    nonlocal b", "def f(a):\n  class K:\n    global a\n    def g(): nonlocal a")
}

func TestP6NonlocalOfNothing(t *testing.T) {
	// Nothing, the module, a class, a comprehension, the scope itself, one beside.
	wantScopeFault(t, "nonlocal a", 1)
	wantScopeFault(t, "a = 1\nnonlocal a", 2)
	wantScopeFault(t, "def f(a): pass\nnonlocal a", 2)
	wantScopeFault(t, "def f():\n  nonlocal a", 2)
	wantScopeFault(t, "def f():\n  nonlocal a\n  a = 1", 2)
	wantScopeFault(t, "def f():\n  nonlocal f", 2)
	wantScopeFault(t, "a = 1\ndef f():\n  nonlocal a", 3)
	wantScopeFault(t, "class K:\n  nonlocal a", 2)
	wantScopeFault(t, "a = 1\nclass K:\n  nonlocal a\n  a = 2", 3)
	wantScopeFault(t, "class K:\n  a = 1\n  def f(self):\n    nonlocal a", 4)
	wantScopeFault(t, "def f():\n  class K:\n    a = 1\n    def g(self):\n      nonlocal a", 5)
	wantScopeFault(t, "def f():\n  [a for a in 0]\n  def g():\n    nonlocal a", 4)
	wantScopeFault(t, "def f():\n  lambda a: a\n  def g():\n    nonlocal a", 4)
	wantScopeFault(t, "def f():\n  def h(a): pass\n  def g():\n    nonlocal a\n    a = 1", 4)
	wantScopeFault(t, "def f():\n  a\n  def g():\n    nonlocal a", 4)
	wantScopeFault(t, "def f(b):\n  def g():\n    nonlocal b, a", 3)
	wantScopeFault(t, "def f():\n  nonlocal a\n  nonlocal a", 2)
	wantScopeFault(t, "def f(a):\n  def g():\n    nonlocal a\n  def h():\n    nonlocal b", 5)
	// A function that declares it global binds no name of its own, nor lets one
	// further out be meant.
	wantScopeFault(t, "def f():\n  global a\n  a = 1\n  def g():\n    nonlocal a", 5)
	wantScopeFault(t, "def f(a):\n  def g():\n    global a\n    a = 1\n    def h():\n      nonlocal a", 6)
	wantScopeFault(t, "def f(a):\n  def g():\n    global a\n    def h():\n      nonlocal a", 5)
	// One that declares it nonlocal binds none either.
	wantScopeFault(t, "def f():\n  def g():\n    nonlocal a\n  nonlocal a", 3)
	wantScopeFault(t, "def f():\n  nonlocal a\n  a = 1\n  def g():\n    nonlocal a", 2)
	wantScopeFault(t, "def f():\n  def g():\n    nonlocal a\n  nonlocal a\n  a = 1", 3)
	for src := range binders() {
		if strings.Contains(src, "x") && !strings.Contains(src, "x as y") && !strings.Contains(src, "from x") {
			wantNoScopeFault(t, inBody("def f():", src+"\ndef g(): nonlocal x"))
			wantNoScopeFault(t, inBody("def f():", "class K:\n  class L: nonlocal x\n"+src))
		}
	}
	wantNoScopeFault(t, "def f(): \n  [(a := i) for i in 0]\n  def g(): nonlocal a", "def f(*a):\n  def g(): nonlocal a", "def f(**a):\n  def g(): nonlocal a")
}

func TestP6WalrusInAClass(t *testing.T) {
	wantScopeFault(t, "class K:\n  [(a := i) for i in 0]", 2)
	wantScopeFault(t, "class K:\n  x = {\n    (a := i) for i in 0}", 3)
	wantScopeFault(t, "class K: {(a := i): 0 for i in 0}", 1)
	wantScopeFault(t, "class K: ((a := i) for i in 0)", 1)
	wantScopeFault(t, "class K: [[(a := i) for i in 0] for j in 0]", 1)
	wantScopeFault(t, "class K: [[0 for i in (a := 0)] for j in 0]", 1)
	wantScopeFault(t, "class K: [0 for i in 0 if (a := i)]", 1)
	wantScopeFault(t, "class K: [0 for i in 0 for j in (a := i)]", 1)
	wantScopeFault(t, "class K: [0 for i[(a := 0)] in 0]", 1)
	wantScopeFault(t, "class K:\n  def f(self, b=[(a := i) for i in 0]): pass", 2)
	wantScopeFault(t, "class K:\n  @[(a := i) for i in 0]\n  def f(self): pass", 2)
	wantScopeFault(t, "class K:\n  class L([(a := i) for i in 0]): pass", 2)
	wantScopeFault(t, "class K:\n  global a\n  [(a := i) for i in 0]", 3)
	wantScopeFault(t, "def f():\n  class K: [(a := i) for i in 0]", 2)
	// In a method, in a lambda, in no comprehension's scope, in what is around.
	wantNoScopeFault(t, "class K:\n  def f(self): [(a := i) for i in 0]", "class K: lambda: [(a := i) for i in 0]", "class K: [lambda: (a := i) for i in 0]", "class K: [lambda: [(a := i) for i in 0] for j in 0]", "class K: (a := 0)", "class K: [0 for i in (a := 0)]", "class K: [0 for i in [0 for j in (a := 0)]]", "class K([(a := i) for i in 0]): pass", "@[(a := i) for i in 0]\nclass K: pass")
}

func TestP6WalrusOfATarget(t *testing.T) {
	wantScopeFault(t, "[(i := 0) for i in 0]", 1)
	wantScopeFault(t, "def f():\n  return {\n   (i := 0) for i in 0}", 3)
	wantScopeFault(t, "{0: (i := 0) for i in 0}", 1)
	wantScopeFault(t, "((i := 0) for i in 0)", 1)
	wantScopeFault(t, "[(i := 0) for j, [*i] in 0]", 1)
	wantScopeFault(t, "[(j := 0) for i in 0 for j in 0]", 1)
	wantScopeFault(t, "[0 for i in 0 if (i := 0)]", 1)
	wantScopeFault(t, "[0 for i in 0 if (j := 0) for j in 0]", 1)
	wantScopeFault(t, "[0 for i in 0 for j in (j := 0)]", 1)
	wantScopeFault(t, "[0 for i in 0 for j in (i := 0)]", 1)
	wantScopeFault(t, "[0 for i, a[(i := 0)] in 0]", 1)
	wantScopeFault(t, "[lambda a=(i := 0): a for i in 0]", 1)
	// Several of one name: the first line, whichever part of the tree has it.
	wantScopeFault(t, "[(\n(i := 0),\n(i := 1)) for i in 0]", 2)
	wantScopeFault(t, "[(\n(i := 0)\n if (i := 1) else 0) for i in 0]", 2)
	// Of one around, of the innermost, of one between.
	wantScopeFault(t, "[[(i := 0) for j in 0] for i in 0]", 1)
	wantScopeFault(t, "[[[(i := 0) for j in 0] for k in 0] for i in 0]", 1)
	wantScopeFault(t, "[[[(i := 0) for j in 0] for i in 0] for k in 0]", 1)
	wantScopeFault(t, "[[0 for j in (i := 0)] for i in 0]", 1)
	wantScopeFault(t, "lambda: [[(i := 0) for j in 0] for i in 0]", 1)
	// Of one beyond a lambda, of one beside or within, of none; what is no name.
	wantNoScopeFault(t, "[lambda: (i := 0) for i in 0]", "[lambda: [(i := 0) for j in 0] for i in 0]", "[0 for i in (i := 0)]", "[[0 for j in (j := 0)] for i in 0]", "[[0 for j in 0] and (j := 0) for i in 0]", "[(i := 0) for i.a in 0]", "[(a := 0) for i[a] in 0]", "[(a := a) for i in a]", "def f(i): return [(i := 0) for j in 0]", "[i for i in 0]\n(i := 0)", "[(j := [j for j in 0]) for i in 0]")
}

func TestP6YieldInAComprehension(t *testing.T) {
	for _, yield := range []string{"(yield)", "(yield a)", "(yield from a)", "(yield a, b)"} {
		wantScopeFault(t, "def f():\n  ["+yield+" for i in 0]", 2)
		wantScopeFault(t, "def f(): {"+yield+" for i in 0}", 1)
		wantScopeFault(t, "def f(): {"+yield+": 0 for i in 0}", 1)
		wantScopeFault(t, "def f(): {0: "+yield+" for i in 0}", 1)
		wantScopeFault(t, "def f():\n  return (\n "+yield+" for i in 0)", 3)
		wantScopeFault(t, "def f(): [0 for i in 0 if "+yield+"]", 1)
		wantScopeFault(t, "def f(): [0 for i in 0 for j in "+yield+"]", 1)
		wantScopeFault(t, "def f(): [0 for i["+yield+"] in 0]", 1)
		wantScopeFault(t, "def f(): [[0 for i in "+yield+"] for j in 0]", 1)
		wantScopeFault(t, "def f(): [[0 for i in 0] for j in 0 for k in [0 for l in "+yield+"]]", 1)
		wantScopeFault(t, "lambda: ["+yield+" for i in 0]", 1)
		wantScopeFault(t, "def f(): [lambda a="+yield+": 0 for i in 0]", 1)
		wantNoScopeFault(t, "def f(): [lambda: "+yield+" for i in 0]", "[lambda: "+yield+" for i in 0]", "def f(): [0 for i in "+yield+"]", "def f(): [0 for i in [0 for j in "+yield+"]]", "def f(): (0 for i in "+yield+")", "[lambda: [0 for i in "+yield+"] for j in 0]")
	}
}

// TestP6LeastLine has several faults at once, each of them in its turn the first.
func TestP6LeastLine(t *testing.T) {
	faults := []string{
		"def f(a):\n  global a", "def f(a):\n  nonlocal a", "def f(a):\n  def g():\n    global a; nonlocal a", "def f():\n  nonlocal a",
		"class K:\n  [(a := i) for i in 0]", "if a:\n  [(i := 0) for i in 0]", "def f():\n  [(yield) for i in 0]", "def f():\n  [(yield from a) for i in 0]",
	}
	for i, first := range faults {
		line := int64(2)
		if strings.Contains(first, "g()") {
			line = 3
		}
		wantScopeFault(t, first, line)
		for j, second := range faults {
			if i != j {
				wantScopeFault(t, first+"\n"+second, line)
				wantScopeFault(t, "pass\n\n"+first+"\n"+second, line+2)
				wantScopeFault(t, strings.Join(faults[i:], "\n")+"\n"+second, line)
			}
		}
	}
	// The lines decide, not the order in which a tree has its nodes.
	wantScopeFault(t, "@[(i := 0) for i in 0]\ndef f(a):\n  global a", 1)
	wantScopeFault(t, "x = ((i := 0)\n for i in [\n  [(i := 0) for i in 0]\n ])", 1)
	wantScopeFault(t, "x = (\n(i := 0)\n if [\n  [(i := 0) for i in 0]\n ] else 0)", 4)
	wantScopeFault(t, "x = [\n[(i := 0) for i in 0]\n if [\n  [(i := 0) for i in 0]\n ] else 0]", 2)
}

// TestP6LinesOfTrees hands in lines that no text has: the least of them counts.
func TestP6LinesOfTrees(t *testing.T) {
	tree := parsed(t, "def f(a, b):\n  global a\n  global b\n[(i := 0) for i in 0]\nnonlocal c")
	for _, lines := range [][4]int64{{2, 3, 4, 5}, {9, 8, 7, 6}, {9, 3, 7, 6}, {9, 9, 1, 9}, {1 << 62, 1 << 62, 1 << 62, 1<<62 - 1}, {7, 7, 7, 7}} {
		changed := copyTree(tree)
		for i, n := range changed.Nodes {
			changed.Nodes[i].Line = 1<<63 - 1
			switch {
			case n.Kind == impl.NWalrus:
				changed.Nodes[i].Line = lines[2]
			case n.Kind == impl.NName && n.Text == "a":
				changed.Nodes[i].Line = lines[0]
			case n.Kind == impl.NName && n.Text == "b":
				changed.Nodes[i].Line = lines[1]
			case n.Kind == impl.NName && n.Text == "c":
				changed.Nodes[i].Line = lines[3]
			}
		}
		list, fault := impl.Scopes(changed)
		if fault != (impl.Fault{Code: impl.FaultScope, Line: min(lines[0], lines[1], lines[2], lines[3])}) || len(list) != 0 {
			t.Errorf("%v: %v", lines, fault)
		}
	}
	// Without a fault the lines say nothing.
	for i, n := range copyTree(parsed(t, "def f(a): return [lambda: a for i in 0]")).Nodes {
		changed := parsed(t, "def f(a): return [lambda: a for i in 0]")
		changed.Nodes[i].Line = n.Line + 1<<40
		if list, fault := impl.Scopes(changed); fault.Code != 0 || len(list) != 4 {
			t.Error(i, fault)
		}
	}
}
