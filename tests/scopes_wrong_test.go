package tests

import (
	"strconv"
	"strings"
	"testing"

	"loop.example/g00009/impl"
)

// wantNoScopes wants the fixed answer of a tree that is not TreeOk.
func wantNoScopes(t *testing.T, what string, tree impl.Tree) {
	t.Helper()
	list, fault := impl.Scopes(tree)
	if fault != (impl.Fault{Code: impl.FaultForm}) || len(list) != 0 {
		t.Errorf("%s: fault %v, %d scopes", what, fault, len(list))
	}
}

func TestP6TreesThatAreNone(t *testing.T) {
	file := func(kids ...int64) impl.Node { return impl.Node{Kind: impl.NFile, Line: 1, Kids: kids} }
	pass := impl.Node{Kind: impl.NPass, Line: 1}
	name := impl.Node{Kind: impl.NName, Line: 1, Text: "a"}
	for what, nodes := range map[string][]impl.Node{
		"nothing": nil, "no nodes": {}, "no file": {pass}, "a Kid out of its place": {pass, file(1)}, "a Kid below 0": {pass, file(-1)}, "a Kid far away": {pass, file(1 << 62)}, "itself": {file(0)}, "a Kid twice": {pass, file(0, 0)}, "a node that hangs on nothing": {pass, file()}, "the file ahead": {file(1), pass},
		"a Kind that there is not": {{Kind: 1000, Line: 1}, file(0)}, "Kind 0": {{Line: 1}, file(0)}, "a Kind below 0": {{Kind: -1, Line: 1}, file(0)}, "the Kind behind the last": {{Kind: impl.PAs + 1, Line: 1}, file(0)},
		"an expression alone": {name, file(0)}, "a def of nothing": {{Kind: impl.NDef, Line: 1, Text: "f"}, file(0)}, "a lambda of nothing": {{Kind: impl.NLambda, Line: 1}, {Kind: impl.NExpr, Line: 1, Kids: []int64{0}}, file(1)}, "a comprehension of nothing": {{Kind: impl.NListComp, Line: 1}, {Kind: impl.NExpr, Line: 1, Kids: []int64{0}}, file(1)}, "a comprehension without a clause": {name, {Kind: impl.NGenExp, Line: 1, Kids: []int64{0}}, {Kind: impl.NExpr, Line: 1, Kids: []int64{1}}, file(2)},
		"a line 0": {{Kind: impl.NPass}, file(0)}, "a file in line 0": {{Kind: impl.NFile}}, "a name that is none": {{Kind: impl.NName, Line: 1, Text: "if"}, {Kind: impl.NExpr, Line: 1, Kids: []int64{0}}, file(1)},
	} {
		wantNoScopes(t, what, impl.Tree{Nodes: nodes})
	}
	// With a fault of its scopes it has none as long as it is no tree.
	wantNoScopes(t, "a yield outside", treeOf(&branch{kind: impl.NFile, line: 1, kids: []*branch{{kind: impl.NExpr, line: 1, kids: []*branch{{kind: impl.NYield, line: 1}}}}}))
	wantNoScopes(t, "nonlocal of nothing", treeOf(&branch{kind: impl.NFile, line: 1, kids: []*branch{{kind: impl.NNonlocal, line: 1}}}))
}

// TestP6ChangedTrees takes trees with each thing of each node changed: those that
// are TreeOk still are meant as the rules say.
func TestP6ChangedTrees(t *testing.T) {
	sources := []string{
		"def f(a, *b, c=d, **e):\n  nonlocal_ = (yield)\n  return [a for i, b in c if (x := i) for j in (lambda: b)]",
		"@a\nclass K(b, c=d):\n  global x\n  x = y = a\n  def f(self): x",
		"def f(x):\n  def g():\n    nonlocal x\n    del x, y[x]\n  for x in x: import x as y\n  with x as [x, *y]: x += 1",
		"match a:\n  case [b, *c] | {1: b, **c} if (d := e): pass\n  case f.g(h, k=_ as l): from m import n, o as p\ntry: a\nexcept b as c: {a: b for a in c for b.c in (a for d in e)}",
	}
	for _, src := range sources {
		tree := parsed(t, src)
		counts := inParallel(len(tree.Nodes), func(at int) string {
			for _, other := range changedNodes(tree, at) {
				if impl.TreeOk(other) {
					wantScopeRule(t, branchOf(other).told(true), other)
				} else {
					wantNoScopes(t, src, other)
				}
			}
			return ""
		})
		if counts[""] != len(tree.Nodes) {
			t.Error(counts)
		}
	}
}

func TestP6Limits(t *testing.T) {
	if list, fault := impl.Scopes(deepTree(impl.MaxDeep + 1)); fault.Code != 0 || len(list) != 1 || len(list[0].Names) != 1 {
		t.Error("as deep as it may be:", fault)
	}
	wantNoScopes(t, "too deep", deepTree(impl.MaxDeep+2))
	wide := branchOf(parsed(t, strings.Repeat("a;", 2999)+"pass"))
	if list, fault := impl.Scopes(treeOf(wide)); fault.Code != 0 || len(list) != 1 || len(list[0].Names) != 1 || list[0].Node != impl.MaxNodes-1 {
		t.Error("as many nodes as may be:", fault)
	}
	wide.kids = append(wide.kids, &branch{kind: impl.NPass, line: 1})
	wantNoScopes(t, "too many nodes", treeOf(wide))
	// A text without a fault whose tree is shown by too many bytes.
	wantNoScopes(t, "a text that is too long", parsed(t, "if a: "+strings.Repeat("b;", 2900)))
}

func TestP6ManyScopes(t *testing.T) {
	// As many scopes as there can be beside one another.
	list, fault := impl.Scopes(parsed(t, strings.Repeat("lambda:a;", 1499)))
	if fault.Code != 0 || len(list) != 1500 || list[1499].Up != 0 || len(list[0].Names) != 0 || len(list[1499].Names) != 1 {
		t.Error("lambdas beside one another:", fault, len(list))
	}
	// As many within one another.
	const deep = 97
	src := strings.Repeat("lambda:", deep) + "a"
	list, fault = impl.Scopes(parsed(t, "lambda a:"+src))
	if fault.Code != 0 || len(list) != deep+2 {
		t.Fatal("lambdas within one another:", fault, len(list))
	}
	for i, s := range list {
		want := []impl.NameHow{{Name: "a", How: impl.HowFree}}
		switch i {
		case 0:
			want = nil
		case 1:
			want[0].How = impl.HowCell
		}
		if s.Up != int64(i-1) || len(s.Names) != len(want) || len(want) == 1 && s.Names[0] != want[0] {
			t.Fatal(i, s)
		}
	}
	if _, fault := impl.Parse("lambda:lambda a:" + src); fault.Code != impl.FaultDeep {
		t.Error("not the deepest of all", fault)
	}
	// Many names, in every scope of several.
	var names []string
	for i := range 200 {
		names = append(names, "n"+strconv.Itoa(i))
	}
	all := strings.Join(names, ", ")
	list, fault = impl.Scopes(parsed(t, "def f():\n  "+strings.Join(names, " = ")+" = 0\n  return lambda: lambda: ("+all+")"))
	if fault.Code != 0 || len(list) != 4 || len(list[1].Names) != 200 || len(list[2].Names) != 200 || len(list[3].Names) != 200 {
		t.Fatal("many names:", fault)
	}
	for _, name := range names {
		if howIn(list[1], name) != impl.HowCell || howIn(list[2], name) != impl.HowFree || howIn(list[3], name) != impl.HowFree {
			t.Error(name)
		}
	}
}
