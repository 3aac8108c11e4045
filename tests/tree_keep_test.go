package tests

import (
	"slices"
	"strings"
	"testing"

	"loop.example/g00009/impl"
)

// treeSources are texts without a fault and with each kind of one.
func treeSources() []string {
	list := append(programs(), showTexts()...)
	list = append(list, noTexts()[:8]...)
	return append(list, "", "a b", "1 = a", "break", "'", "$", strings.Repeat("-", 101)+"a", "f'{+}'", "import a as b\nfrom c import d, e as f", strings.Repeat("a;", 2000), strings.Repeat("a;", 8000))
}

// overwriteTree fills all that a tree has, and the spare room behind it.
func overwriteTree(tree impl.Tree) {
	nodes := tree.Nodes[:cap(tree.Nodes)]
	for i := range nodes {
		kids := nodes[i].Kids[:cap(nodes[i].Kids)]
		for j := range kids {
			kids[j] = -77
		}
		nodes[i] = impl.Node{Kind: -1, Op: -1, Line: -1, Text: "overwritten", Kids: kids}
	}
}

func TestP20TreesTheSameTwice(t *testing.T) {
	for _, src := range treeSources() {
		first, fault := impl.Parse(src)
		kept := copyTree(first)
		second, again := impl.Parse(strings.Clone(src))
		if again != fault || !sameTree(second, kept) {
			t.Fatal("another tree the second time:", shown(src))
		}
		overwriteTree(first)
		third, again := impl.Parse(src)
		if again != fault || !sameTree(second, kept) || !sameTree(third, kept) {
			t.Fatal("what was answered is kept:", shown(src))
		}
	}
}

func TestP20TreesAreNewMemory(t *testing.T) {
	for _, src := range treeSources() {
		given := strings.Clone(src)
		tree, _ := impl.Parse(given)
		for _, n := range tree.Nodes {
			if sharesMemory(n.Text, given) {
				t.Fatalf("%s shares memory with what was given: %s", shown(n.Text), shown(src))
			}
		}
		if given != src {
			t.Fatal("written into:", shown(src))
		}
		if len(tree.Nodes) == 0 {
			continue
		}
		text, _ := impl.Show(tree)
		for _, n := range tree.Nodes {
			if sharesMemory(n.Text, text) {
				t.Fatalf("what is shown shares memory with the tree: %s", shown(src))
			}
		}
	}
}

// TestP20KidsShareNothing fills the lists of a tree one by one, with the spare
// room behind them: no other list changes.
func TestP20KidsShareNothing(t *testing.T) {
	for _, src := range treeSources() {
		tree, _ := impl.Parse(src)
		want := copyTree(tree)
		for i := range tree.Nodes {
			kids := tree.Nodes[i].Kids[:cap(tree.Nodes[i].Kids)]
			for j := range kids {
				kids[j] = -77
			}
			want.Nodes[i].Kids = slices.Repeat([]int64{-77}, len(tree.Nodes[i].Kids))
			if i < 200 && !sameTree(tree, want) {
				t.Fatalf("%s: the Kids of %s share memory with others", shown(src), nodeWord(tree.Nodes[i].Kind))
			}
		}
		if !sameTree(tree, want) {
			t.Fatalf("%s: Kids share memory", shown(src))
		}
	}
}

func spareNode() impl.Node {
	return impl.Node{Kind: -5, Op: -5, Line: -5, Text: "spare", Kids: []int64{-5}}
}

// withSpare copies a tree, and fills the spare room behind its lists.
func withSpare(tree impl.Tree) impl.Tree {
	given := copyTree(tree)
	for i := len(given.Nodes); i < cap(given.Nodes); i++ {
		given.Nodes[:cap(given.Nodes)][i] = spareNode()
	}
	for _, n := range given.Nodes {
		for j := len(n.Kids); j < cap(n.Kids); j++ {
			n.Kids[:cap(n.Kids)][j] = -5
		}
	}
	return given
}

// wantAsItWas wants a tree, and the spare room behind its lists, as withSpare made
// it.
func wantAsItWas(t *testing.T, what string, given impl.Tree, tree impl.Tree) {
	t.Helper()
	if !sameTree(given, tree) {
		t.Errorf("%s: the tree was written into", what)
	}
	for _, n := range given.Nodes[len(given.Nodes):cap(given.Nodes)] {
		if !sameNode(n, spareNode()) {
			t.Errorf("%s: written behind the nodes", what)
		}
	}
	for _, n := range given.Nodes {
		for _, kid := range n.Kids[len(n.Kids):cap(n.Kids)] {
			if kid != -5 {
				t.Errorf("%s: written behind the Kids", what)
			}
		}
	}
}

// wantLeftAlone wants one answer of two calls, and the tree, with the spare
// room behind its lists, as it was.
func wantLeftAlone(t *testing.T, tree impl.Tree) {
	t.Helper()
	given := withSpare(tree)
	text, ok := impl.Show(given)
	again, same := impl.Show(given)
	if text != again || ok != same || impl.TreeOk(given) != ok || impl.TreeOk(given) != ok {
		t.Errorf("%s: answered otherwise the second time", shown(text))
	}
	wantAsItWas(t, shown(text), given, tree)
}

func TestP20ShowLeavesTreesAlone(t *testing.T) {
	wantLeftAlone(t, impl.Tree{})
	for _, src := range treeSources() {
		tree, fault := impl.Parse(src)
		if fault.Code != 0 {
			continue
		}
		wantLeftAlone(t, tree)
		if len(tree.Nodes) > 40 {
			continue
		}
		for at := range tree.Nodes {
			for i, other := range changedNodes(tree, at) {
				if i%5 == 0 {
					wantLeftAlone(t, other)
				}
			}
		}
	}
	wantLeftAlone(t, deepTree(102))
	wantLeftAlone(t, wideTree(6001))
}
