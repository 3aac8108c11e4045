package tests

import (
	"math/rand"
	"slices"
	"strings"
	"testing"

	"loop.example/g00009/impl"
)

// copyTree copies a tree, with spare room behind each of its lists.
func copyTree(tree impl.Tree) impl.Tree {
	nodes := make([]impl.Node, len(tree.Nodes), len(tree.Nodes)+3)
	for i, n := range tree.Nodes {
		nodes[i] = n
		nodes[i].Kids = append(make([]int64, 0, len(n.Kids)+3), n.Kids...)
	}
	return impl.Tree{Nodes: nodes}
}

// wantNotShown wants the fixed answer of a tree that is no text's.
func wantNotShown(t *testing.T, what string, tree impl.Tree) {
	t.Helper()
	text, ok := impl.Show(tree)
	if ok || text != "" || impl.TreeOk(tree) {
		t.Errorf("%s: shown as %s, %v", what, shown(text), ok)
	}
}

// withNode is a text's tree with one node changed, the first of a kind.
func withNode(t *testing.T, src string, kind int64, change func(n *impl.Node)) impl.Tree {
	t.Helper()
	tree := parsed(t, src)
	at := slices.IndexFunc(tree.Nodes, func(n impl.Node) bool { return n.Kind == kind })
	if at < 0 {
		t.Fatal("no such node:", src)
	}
	change(&tree.Nodes[at])
	return tree
}

func TestP5TreesWithoutPlaces(t *testing.T) {
	wantNotShown(t, "an empty tree", impl.Tree{})
	wantNotShown(t, "an empty list", impl.Tree{Nodes: []impl.Node{}})
	file := func(kids ...int64) impl.Node { return impl.Node{Kind: impl.NFile, Line: 1, Kids: kids} }
	pass := impl.Node{Kind: impl.NPass, Line: 1}
	name := impl.Node{Kind: impl.NName, Line: 1, Text: "a"}
	expr := func(kids ...int64) impl.Node { return impl.Node{Kind: impl.NExpr, Line: 1, Kids: kids} }
	if text, ok := impl.Show(impl.Tree{Nodes: []impl.Node{pass, name, expr(1), file(0, 2)}}); text != "pass\na\n" || !ok {
		t.Errorf("%q %v", text, ok)
	}
	if text, ok := impl.Show(impl.Tree{Nodes: []impl.Node{file()}}); text != "" || !ok {
		t.Errorf("%q %v", text, ok)
	}
	for what, nodes := range map[string][]impl.Node{
		"no file": {pass}, "a statement behind the file": {file(), pass}, "a node that hangs on nothing": {pass, file()}, "two of which one hangs on nothing": {pass, pass, file(1)}, "a Kid twice": {pass, file(0, 0)}, "a Kid below 0": {pass, file(-1)}, "a Kid too great": {pass, file(1)}, "a Kid far too great": {pass, file(1 << 62)}, "least of all": {pass, file(-1 << 63)},
		"itself": {file(0)}, "Kids in another order": {pass, pass, file(1, 0)}, "a Kid of two": {name, expr(0), expr(0), file(1, 2)}, "a Kid of a Kid": {name, expr(0), file(0, 1)}, "a file in a file": {file(), file(0)}, "two files": {file(), file()}, "the file first": {file(1), pass}, "not behind its Kids": {expr(1), name, file(0)}, "an expression alone": {name, file(0)}, "nothing in an NExpr": {expr(), file(0)}, "two in an NExpr": {name, name, expr(0, 1), file(2)},
	} {
		wantNotShown(t, what, impl.Tree{Nodes: nodes})
	}
	for _, line := range []int64{0, -1, -1 << 63} {
		for at := range 4 {
			nodes := []impl.Node{pass, name, expr(1), file(0, 2)}
			nodes[at].Line = line
			wantNotShown(t, "a Line below 1", impl.Tree{Nodes: nodes})
		}
	}
	wantNotShown(t, "an empty file with a Line below 1", impl.Tree{Nodes: []impl.Node{{Kind: impl.NFile}}})
	nodes := []impl.Node{pass, name, expr(1), file(0, 2)}
	nodes[0].Line, nodes[1].Line, nodes[3].Line = 1<<62, 7, 1000
	if _, ok := impl.Show(impl.Tree{Nodes: nodes}); !ok {
		t.Error("Lines in no order are Lines")
	}
}

func TestP5TreesWithWrongTexts(t *testing.T) {
	bad := map[int64][]string{
		impl.NName:  {"", "1", "a b", "a.b", "if", "None", "é", "a\n", " a", "(a)", "a)+(b", strings.Repeat("a", 61), "a#", "\xff", "a\x00"},
		impl.NInt:   {"", "-1", "01", "0x1", "1_0", "1.0", "a", " 1", "1e5", "1 + 1", "+1", "１", "1" + strings.Repeat("0", 1300), "\xff"},
		impl.NFloat: {"", "1", "1.50", "1.", ".5", "1e5", "1e16", "inf", "nan", "-1.5", "1e+400", "1.5 ", "1.5e1", "\xff", "0.00001"},
		impl.NStr:   {"\xff", "a\xff", "\xed\xa0\x80", strings.Repeat("a", impl.MaxText), strings.Repeat("a", impl.MaxText+1), strings.Repeat("\n", impl.MaxText/2)},
	}
	for kind, list := range bad {
		src := map[int64]string{impl.NName: "a\n", impl.NInt: "1\n", impl.NFloat: "1.5\n", impl.NStr: "'a'\n"}[kind]
		for _, text := range list {
			wantNotShown(t, nodeWord(kind)+" "+shown(text), withNode(t, src, kind, func(n *impl.Node) { n.Text = text }))
		}
	}
	// Each name, wherever it is a Text.
	for src, kinds := range map[string][]int64{
		"a.b": {impl.NAttr}, "f(k=a)": {impl.NKey}, "(a := b)": {impl.NWalrus}, "lambda a: b": {impl.NParam}, "import a": {impl.NImport, impl.NName}, "from a import b": {impl.NFrom, impl.NAlias, impl.NName}, "def f(): pass": {impl.NDef}, "class A: pass": {impl.NClass}, "global a": {impl.NName}, "try: a\nexcept b as c: d": {impl.NHandler},
		"match x:\n case a: b": {impl.PCapture}, "match x:\n case [*a]: b": {impl.PStar}, "match x:\n case {**a}: b": {impl.PRest}, "match x:\n case A(k=a): b": {impl.PKey}, "match x:\n case 1 as a: b": {impl.PAs},
	} {
		for _, kind := range kinds {
			for _, text := range bad[impl.NName][1:] {
				wantNotShown(t, src+" "+nodeWord(kind)+" "+shown(text), withNode(t, src, kind, func(n *impl.Node) { n.Text = text }))
			}
			if kind != impl.PStar && kind != impl.NHandler {
				wantNotShown(t, src+" "+nodeWord(kind), withNode(t, src, kind, func(n *impl.Node) { n.Text = "" }))
			}
		}
	}
	wantNotShown(t, "a capture of _", withNode(t, "match x:\n case a: b", impl.PCapture, func(n *impl.Node) { n.Text = "_" }))
	wantNotShown(t, "a star of _", withNode(t, "match x:\n case [*a]: b", impl.PStar, func(n *impl.Node) { n.Text = "_" }))
	wantNotShown(t, "a name without an exception", withNode(t, "try: a\nexcept: b", impl.NHandler, func(n *impl.Node) { n.Text = "c" }))
	for _, spec := range []string{"{", "}", "a}", "'", "\"", "\\", "#", "\n", "\xff"} {
		wantNotShown(t, "a spec of "+spec, withNode(t, "f'{a}'", impl.NField, func(n *impl.Node) { n.Text = spec }))
	}
	wantNotShown(t, "an empty text among fields", withNode(t, "f'a{b}'", impl.NStr, func(n *impl.Node) { n.Text = "" }))
	// Where no Text is wanted.
	for _, src := range showTexts() {
		tree := parsed(t, src)
		for i, n := range tree.Nodes {
			if n.Text == "" && n.Kind != impl.NStr && n.Kind != impl.NField && n.Kind != impl.NHandler && n.Kind != impl.PStar {
				other := copyTree(tree)
				other.Nodes[i].Text = "a"
				wantNotShown(t, src+" with a Text at "+nodeWord(n.Kind), other)
			}
		}
	}
}

func TestP5TreesWithWrongOps(t *testing.T) {
	most := map[int64]int64{impl.NConst: 2, impl.NBool: 2, impl.NCmp: 10, impl.NBinary: 12, impl.NUnary: 3, impl.NAug: 12, impl.NField: 2, impl.NParam: 4}
	for _, src := range showTexts() {
		tree := parsed(t, src)
		for i, n := range tree.Nodes {
			for _, op := range []int64{-1, -1 << 63, most[n.Kind] + 1, 100, 1 << 62} {
				other := copyTree(tree)
				other.Nodes[i].Op = op
				wantNotShown(t, src+" with another Op at "+nodeWord(n.Kind), other)
			}
			if most[n.Kind] > 2 || n.Kind == impl.NBool {
				other := copyTree(tree)
				other.Nodes[i].Op = 0
				wantNotShown(t, src+" with Op 0 at "+nodeWord(n.Kind), other)
			}
		}
	}
}

// TestP5TreesChanged changes each thing of each node of many trees: what is
// still a text's tree is shown, all else is not.
func TestP5TreesChanged(t *testing.T) {
	texts := showTexts()
	counts := inParallel(len(texts), func(i int) string {
		tree := parsed(t, texts[i])
		for at := range tree.Nodes {
			for _, other := range changedNodes(tree, at) {
				wantShowRule(t, other)
			}
		}
		return ""
	})
	if counts[""] != len(texts) {
		t.Error(counts)
	}
}

// changedNodes are trees of which one node is another.
func changedNodes(tree impl.Tree, at int) []impl.Tree {
	var out []impl.Tree
	add := func(change func(n *impl.Node)) {
		other := copyTree(tree)
		change(&other.Nodes[at])
		out = append(out, other)
	}
	for kind := int64(-1); kind <= int64(len(nodeWords()))+1; kind++ {
		add(func(n *impl.Node) { n.Kind = kind })
	}
	for op := int64(-1); op <= 13; op++ {
		add(func(n *impl.Node) { n.Op = op })
	}
	for _, text := range []string{"", "a", "b", "_", "1", "2.5", "None", "a b", "'", "é"} {
		add(func(n *impl.Node) { n.Text = text })
	}
	for i := range tree.Nodes[at].Kids {
		add(func(n *impl.Node) { n.Kids[i]++ })
		add(func(n *impl.Node) { n.Kids[i]-- })
		add(func(n *impl.Node) { n.Kids = slices.Delete(n.Kids, i, i+1) })
		add(func(n *impl.Node) { n.Kids = slices.Insert(n.Kids, i, n.Kids[i]) })
		// The node that is cut off is an NAbsent, or a name.
		for _, leaf := range []impl.Node{{Kind: impl.NAbsent, Line: 1}, {Kind: impl.NName, Text: "a", Line: 1}, {Kind: impl.NPass, Line: 1}, {Kind: impl.NTuple, Line: 1}, {Kind: impl.PAny, Line: 1}} {
			root := branchOf(tree)
			nodeAt(root, at).kids[i] = &branch{kind: leaf.Kind, text: leaf.Text, line: 1}
			out = append(out, treeOf(root))
		}
	}
	for _, leaf := range []impl.Node{{Kind: impl.NAbsent, Line: 1}, {Kind: impl.NName, Text: "a", Line: 1}, {Kind: impl.NPass, Line: 1}, {Kind: impl.NBlock, Line: 1}} {
		root := branchOf(tree)
		b := nodeAt(root, at)
		b.kids = append(b.kids, &branch{kind: leaf.Kind, text: leaf.Text, line: 1})
		out = append(out, treeOf(root))
	}
	add(func(n *impl.Node) { n.Line = 0 })
	add(func(n *impl.Node) { n.Line += 5 })
	return out
}

// nodeAt is the node at a place in postorder.
func nodeAt(b *branch, at int) *branch {
	var found *branch
	var walk func(b *branch)
	walk = func(b *branch) {
		for _, kid := range b.kids {
			walk(kid)
		}
		if at == 0 {
			found = b
		}
		at--
	}
	walk(b)
	return found
}

// TestP5TreesMixed puts parts of trees into one another.
func TestP5TreesMixed(t *testing.T) {
	var all []*branch
	for _, src := range showTexts() {
		tree := parsed(t, src)
		for i := range tree.Nodes {
			all = append(all, nodeAt(branchOf(tree), i))
		}
	}
	counts := inParallel(20000, func(i int) string {
		r := rand.New(rand.NewSource(int64(i)))
		tree := parsed(t, showTexts()[r.Intn(len(showTexts()))])
		root := branchOf(tree)
		for range 1 + r.Intn(2) {
			if b := nodeAt(root, r.Intn(len(tree.Nodes))); b != nil && len(b.kids) > 0 {
				b.kids[r.Intn(len(b.kids))] = all[r.Intn(len(all))].copied()
			}
		}
		if wantShowRule(t, treeOf(root)) {
			return "shown"
		}
		return "not"
	})
	if counts["shown"] < 1000 || counts["not"] < 1000 {
		t.Error("too few of a kind:", counts)
	}
}

func TestP5TreesWithBadTargets(t *testing.T) {
	// What can't be a target stands where one must.
	for _, c := range []struct {
		src  string
		kind int64
	}{
		{"a = b", impl.NAssign}, {"a += b", impl.NAug}, {"del a", impl.NDel}, {"for a in b:\n    c\n", impl.NLoop}, {"[x for a in b]", impl.NFor}, {"with b as a:\n    c\n", impl.NWith},
	} {
		for _, target := range []string{"1", "f()", "a + b", "-a", "{a}", "[*a, *b]", "(a, 1)", "None", "a if b else c", "(b := c)"} {
			root := branchOf(parsed(t, c.src))
			b := nodeAt(root, slices.IndexFunc(treeOf(root).Nodes, func(n impl.Node) bool { return n.Kind == c.kind }))
			place := 0
			if c.kind == impl.NWith {
				place = 1
			}
			b.kids[place] = branchOf(parsed(t, target)).kids[0].kids[0]
			wantNotShown(t, c.src+" with the target "+target, treeOf(root))
			b.kids[place] = branchOf(parsed(t, "a.b")).kids[0].kids[0]
			if !impl.TreeOk(treeOf(root)) {
				t.Error(c.src, "with the target a.b")
			}
		}
	}
	root := branchOf(parsed(t, "del (a, b)"))
	root.kids[0].kids[0] = branchOf(parsed(t, "(a, *b)")).kids[0].kids[0]
	wantNotShown(t, "a star in a del", treeOf(root))
	root = branchOf(parsed(t, "a += b"))
	root.kids[0].kids[0] = branchOf(parsed(t, "(a, b)")).kids[0].kids[0]
	wantNotShown(t, "a tuple with +=", treeOf(root))
}

func TestP5TreesThatStandNowhere(t *testing.T) {
	// Statements of a function or a loop without one around them.
	for _, kind := range []int64{impl.NBreak, impl.NContinue, impl.NReturn} {
		wantNotShown(t, nodeWord(kind), withNode(t, "pass", impl.NPass, func(n *impl.Node) { n.Kind = kind }))
		wantNotShown(t, nodeWord(kind), withNode(t, "class A: pass", impl.NPass, func(n *impl.Node) { n.Kind = kind }))
	}
	root := branchOf(parsed(t, "a"))
	root.kids[0].kids[0] = &branch{kind: impl.NYield, line: 1}
	wantNotShown(t, "a yield in no function", treeOf(root))
	// Names that can't stand beside each other.
	wantNotShown(t, "a parameter twice", withNode(t, "def f(a, b): pass", impl.NParam, func(n *impl.Node) { n.Text = "b" }))
	wantNotShown(t, "a key twice", withNode(t, "match x:\n case A(k=1, l=2): pass", impl.PKey, func(n *impl.Node) { n.Text = "l" }))
	wantNotShown(t, "a name bound twice", withNode(t, "match x:\n case [a, b]: pass", impl.PCapture, func(n *impl.Node) { n.Text = "b" }))
	wantNotShown(t, "sides that bind other names", withNode(t, "match x:\n case [a] | [a]: pass", impl.PCapture, func(n *impl.Node) { n.Text = "b" }))
	wantNotShown(t, "two stars", withNode(t, "match x:\n case [a, *b]: pass", impl.PCapture, func(n *impl.Node) { n.Kind = impl.PStar }))
	// A row of parts that one part would be.
	root = branchOf(parsed(t, "f'ab'"))
	part := root.kids[0].kids[0]
	part.kids = append(part.kids, &branch{kind: impl.NStr, text: "c", line: 1})
	wantNotShown(t, "two texts of an f-string", treeOf(root))
	// A string in a field can't be written.
	root = branchOf(parsed(t, "f'{a}'"))
	root.kids[0].kids[0].kids[0].kids[0] = &branch{kind: impl.NStr, text: "b", line: 1}
	wantNotShown(t, "a string in a field", treeOf(root))
}

// deepTree is a tree of n nodes within one another.
func deepTree(n int) impl.Tree {
	nodes := []impl.Node{{Kind: impl.NName, Text: "a", Line: 1}}
	for i := range n - 3 {
		nodes = append(nodes, impl.Node{Kind: impl.NAttr, Text: "b", Line: 1, Kids: []int64{int64(i)}})
	}
	for _, kind := range []int64{impl.NExpr, impl.NFile} {
		nodes = append(nodes, impl.Node{Kind: kind, Line: 1, Kids: []int64{int64(len(nodes) - 1)}})
	}
	return impl.Tree{Nodes: nodes}
}

// wideTree is a file of n nodes.
func wideTree(n int) impl.Tree {
	file := impl.Node{Kind: impl.NFile, Line: 1}
	var nodes []impl.Node
	for i := range n - 1 {
		nodes = append(nodes, impl.Node{Kind: impl.NInt, Text: "1", Line: 1})
		file.Kids = append(file.Kids, int64(i))
	}
	list := impl.Node{Kind: impl.NSet, Line: 1, Kids: file.Kids[:n-3]}
	nodes[n-3] = list
	nodes[n-2] = impl.Node{Kind: impl.NExpr, Line: 1, Kids: []int64{int64(n - 3)}}
	file.Kids = []int64{int64(n - 2)}
	return impl.Tree{Nodes: append(nodes, file)}
}

func TestP5TreesBeyondTheLimits(t *testing.T) {
	if text, ok := impl.Show(deepTree(101)); !ok || text != "a"+strings.Repeat(".b", 98)+"\n" {
		t.Error(shown(text), ok)
	}
	wantNotShown(t, "102 within one another", deepTree(102))
	wantNotShown(t, "6000 within one another", deepTree(6000))
	wantNotShown(t, "very many within one another", deepTree(200000))
	if text, ok := impl.Show(wideTree(5400)); !ok || len(text) != 3*5397+1 {
		t.Error(len(text), ok)
	}
	// Each with a comma and a blank.
	wantNotShown(t, "a text too long", wideTree(5470))
	wantNotShown(t, "6000 nodes and a text too long", wideTree(6000))
	wantNotShown(t, "6001 nodes", wideTree(6001))
	wantNotShown(t, "very many nodes", wideTree(300000))
	passes := func(n int) impl.Tree {
		file := impl.Node{Kind: impl.NFile, Line: 1}
		var nodes []impl.Node
		for range n / 2 {
			at := int64(len(nodes))
			nodes = append(nodes, impl.Node{Kind: impl.NInt, Text: "1", Line: 1}, impl.Node{Kind: impl.NExpr, Line: 1, Kids: []int64{at}})
			file.Kids = append(file.Kids, at+1)
		}
		return impl.Tree{Nodes: append(nodes, file)}
	}
	if _, ok := impl.Show(passes(5999)); !ok {
		t.Error("5999 nodes")
	}
	wantNotShown(t, "6001 nodes that are short", passes(6000))
	huge := strings.Repeat("a", 1<<22)
	for _, src := range showTexts() {
		tree := parsed(t, src)
		for i := range tree.Nodes {
			tree.Nodes[i].Text = huge
		}
		wantNotShown(t, src+" with very long Texts", tree)
	}
}
