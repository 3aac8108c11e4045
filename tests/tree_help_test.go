package tests

import (
	"slices"
	"strconv"
	"strings"
	"testing"

	"loop.example/g00009/impl"
)

// nodeWords are the kinds of nodes in the order of their numbers, from 1 on,
// without the N of most of them.
func nodeWords() []string {
	return strings.Fields(`File Block Absent Int Float Str FStr Field Name Const Attr Index Slice Call Star Key KStar
		Tuple List Set Dict Pair ListComp SetComp DictComp GenExp For Lambda Params Param Cond Bool Not Compare Cmp
		Binary Unary Walrus Yield YieldFrom Expr Assign Aug Del Pass Break Continue Return Raise Assert Global Nonlocal
		Import From Alias If While Loop Try Handler With Def Class Bases Match Case
		PValue PCapture PAny PSeq PStar PMap PPair PRest PClass PKey POr PAs`)
}

func nodeWord(kind int64) string {
	if kind < 1 || kind > int64(len(nodeWords())) {
		return "kind" + strconv.FormatInt(kind, 10)
	}
	return nodeWords()[kind-1]
}

// branch is a node with those below it in its hands.
type branch struct {
	kind int64
	op   int64
	text string
	line int64
	kids []*branch
}

// branchOf makes branches of a tree whose places are right.
func branchOf(tree impl.Tree) *branch {
	all := make([]*branch, len(tree.Nodes))
	for i, n := range tree.Nodes {
		all[i] = &branch{kind: n.Kind, op: n.Op, text: n.Text, line: n.Line}
		for _, kid := range n.Kids {
			all[i].kids = append(all[i].kids, all[kid])
		}
	}
	return all[len(all)-1]
}

// treeOf puts branches into postorder.
func treeOf(root *branch) impl.Tree {
	var nodes []impl.Node
	var add func(b *branch) int64
	add = func(b *branch) int64 {
		n := impl.Node{Kind: b.kind, Op: b.op, Text: b.text, Line: b.line}
		for _, kid := range b.kids {
			n.Kids = append(n.Kids, add(kid))
		}
		nodes = append(nodes, n)
		return int64(len(nodes) - 1)
	}
	add(root)
	return impl.Tree{Nodes: nodes}
}

func (b *branch) copied() *branch {
	out := *b
	out.kids = nil
	for _, kid := range b.kids {
		out.kids = append(out.kids, kid.copied())
	}
	return &out
}

// told is a branch as a text: Binary.6(Name:a Int:1), with the Op behind a
// point and the Text behind a colon; with lines it has @ and the Line.
func (b *branch) told(lines bool) string {
	out := nodeWord(b.kind)
	if b.op != 0 {
		out += "." + strconv.FormatInt(b.op, 10)
	}
	if b.text != "" {
		out += ":" + b.text
	}
	if lines {
		out += "@" + strconv.FormatInt(b.line, 10)
	}
	if len(b.kids) == 0 {
		return out
	}
	words := make([]string, len(b.kids))
	for i, kid := range b.kids {
		words[i] = kid.told(lines)
	}
	return out + "(" + strings.Join(words, " ") + ")"
}

func sameNode(a impl.Node, b impl.Node) bool {
	return a.Line == b.Line && sameNodeElsewhere(a, b)
}

func sameNodeElsewhere(a impl.Node, b impl.Node) bool {
	return a.Kind == b.Kind && a.Op == b.Op && a.Text == b.Text && slices.Equal(a.Kids, b.Kids)
}

func sameTree(a impl.Tree, b impl.Tree) bool { return slices.EqualFunc(a.Nodes, b.Nodes, sameNode) }

// sameButLines tells whether two trees are the same but for their lines.
func sameButLines(a impl.Tree, b impl.Tree) bool {
	return slices.EqualFunc(a.Nodes, b.Nodes, sameNodeElsewhere)
}

// parsed parses a text that has no fault.
func parsed(t *testing.T, src string) impl.Tree {
	t.Helper()
	tree, fault := impl.Parse(src)
	if fault != (impl.Fault{}) {
		t.Fatalf("%s: fault %d in line %d", shown(src), fault.Code, fault.Line)
	}
	return tree
}

// wantTree wants the tree of a text, as told without lines, what is in the
// File's brackets; what is shown of it is to be read as the same.
func wantTree(t *testing.T, src string, want string) {
	t.Helper()
	tree, fault := impl.Parse(src)
	if fault != (impl.Fault{}) {
		t.Errorf("%q: fault %d in line %d; wanted %s", src, fault.Code, fault.Line, want)
		return
	}
	if got := branchOf(tree).told(false); got != "File("+want+")" {
		t.Errorf("%q:\n%s; wanted\nFile(%s)", src, got, want)
	}
	wantShownBack(t, src, tree)
}

// wantShownBack wants what promise 5 says of a tree of a text that is short.
func wantShownBack(t *testing.T, src string, tree impl.Tree) {
	t.Helper()
	text, ok := impl.Show(tree)
	if !ok {
		t.Errorf("%q: not shown", src)
		return
	}
	again, fault := impl.Parse(text)
	if fault != (impl.Fault{}) || !sameButLines(again, tree) {
		t.Errorf("%q shown as %q: read as another tree, fault %v", src, text, fault)
		return
	}
	if second, ok := impl.Show(again); !ok || second != text {
		t.Errorf("%q shown as %q, and then as %q", src, text, second)
	}
}

// wantExpr wants a statement that is an expression.
func wantExpr(t *testing.T, src string, want string) {
	t.Helper()
	wantTree(t, src, "Expr("+want+")")
}

// wantNoTree wants that fault, and the zero Tree.
func wantNoTree(t *testing.T, src string, code int64, line int64) {
	t.Helper()
	tree, fault := impl.Parse(src)
	if fault != (impl.Fault{Code: code, Line: line}) || len(tree.Nodes) != 0 {
		t.Errorf("%.120q: fault %d in line %d, %d nodes; wanted fault %d in line %d", src, fault.Code, fault.Line, len(tree.Nodes), code, line)
	}
}

// wantNoForm wants a FaultForm in line 1 for each.
func wantNoForm(t *testing.T, list ...string) {
	t.Helper()
	for _, src := range list {
		wantNoTree(t, src, impl.FaultForm, 1)
	}
}

// wantNoTarget wants a FaultTarget in line 1 for each.
func wantNoTarget(t *testing.T, list ...string) {
	t.Helper()
	for _, src := range list {
		wantNoTree(t, src, impl.FaultTarget, 1)
	}
}

// wantShow wants the text that is shown of a text's tree.
func wantShow(t *testing.T, src string, want string) {
	t.Helper()
	text, ok := impl.Show(parsed(t, src))
	if !ok || text != want {
		t.Errorf("%q: shown as %q %v; wanted %q", src, text, ok, want)
	}
	if !impl.TreeOk(parsed(t, src)) {
		t.Errorf("%q: not TreeOk", src)
	}
	again, ok := impl.Show(parsed(t, want))
	if !ok || again != want {
		t.Errorf("%q: shown again as %q %v", want, again, ok)
	}
}
