package tests

import (
	"slices"
	"strings"
	"testing"

	"loop.example/g00009/impl"
)

// scopeTrees are trees with scopes, with faults, and ones that are no trees.
func scopeTrees() []impl.Tree {
	out := []impl.Tree{{}, {Nodes: []impl.Node{{Kind: impl.NPass, Line: 1}}}, deepTree(102), wideTree(6001)}
	list := append(treeSources(), "nonlocal a", "def f(a):\n  global a", "[(i := 0) for i in 0]", "class K: [(a := i) for i in 0]", "def f(): [(yield) for i in 0]",
		"def f(a, b):\n  def g(): a, b\n  def h(): a, b\n  return [(a, b, c) for c in 0 for d in (lambda: (a, b, c))]", strings.Repeat("lambda:a;", 1499), strings.Repeat("lambda:", 98)+"a", "lambda a:"+strings.Repeat("lambda:", 97)+"a")
	for i := range 300 {
		list = append(list, newScopeWriter(int64(i)+500000).program())
	}
	for src := range binders() {
		list = append(list, inBody("def f():", src))
	}
	for _, src := range list {
		if tree, fault := impl.Parse(src); fault.Code == 0 {
			out = append(out, tree)
		}
	}
	return out
}

func copyScopes(list []impl.Scope) []impl.Scope {
	out := slices.Clone(list)
	for i, s := range list {
		out[i].Names = slices.Clone(s.Names)
	}
	return out
}

// overwriteScopes fills all that scopes have, and the spare room behind it.
func overwriteScopes(list []impl.Scope) {
	list = list[:cap(list)]
	for i, s := range list {
		names := s.Names[:cap(s.Names)]
		for j := range names {
			names[j] = impl.NameHow{Name: "overwritten", How: -7}
		}
		list[i] = impl.Scope{Node: -7, Kind: -7, Up: -7, Gen: !s.Gen}
	}
}

func TestP20ScopesTheSameTwice(t *testing.T) {
	for _, tree := range scopeTrees() {
		first, fault := impl.Scopes(tree)
		kept := copyScopes(first)
		second, again := impl.Scopes(copyTree(tree))
		if again != fault || !sameScopes(second, kept) {
			t.Fatal("other scopes the second time:", fault, again)
		}
		overwriteScopes(first)
		third, again := impl.Scopes(tree)
		if again != fault || !sameScopes(second, kept) || !sameScopes(third, kept) {
			t.Fatal("what was answered is kept:", fault, again)
		}
	}
}

func TestP20ScopesLeaveTreesAlone(t *testing.T) {
	for _, tree := range scopeTrees() {
		given := withSpare(tree)
		impl.Scopes(given)
		wantAsItWas(t, "Scopes", given, tree)
	}
}

func TestP20ScopesAreNewMemory(t *testing.T) {
	for _, tree := range scopeTrees() {
		list, _ := impl.Scopes(tree)
		for i, s := range list {
			for j, name := range s.Names {
				for _, n := range tree.Nodes {
					if sharesMemory(name.Name, n.Text) {
						t.Fatalf("%q is memory of the tree", name.Name)
					}
				}
				if j > 0 && sharesMemory(name.Name, s.Names[j-1].Name) || i > 0 && len(list[i-1].Names) > 0 && sharesMemory(name.Name, list[i-1].Names[0].Name) {
					t.Fatalf("%q shares memory with another name", name.Name)
				}
			}
			if len(list) > 200 {
				break
			}
		}
	}
}

// TestP20NamesShareNothing fills the names of scopes one by one, with the spare
// room behind them: no other scope changes.
func TestP20NamesShareNothing(t *testing.T) {
	for _, tree := range scopeTrees() {
		list, _ := impl.Scopes(tree)
		want := copyScopes(list)
		for i, s := range list {
			names := s.Names[:cap(s.Names)]
			for j := range names {
				names[j] = impl.NameHow{Name: "overwritten", How: -7}
			}
			copy(want[i].Names, names)
			if i < 100 && !sameScopes(list, want) {
				t.Fatal("the names of scopes share memory:", i)
			}
		}
		if !sameScopes(list, want) {
			t.Fatal("the names of scopes share memory")
		}
	}
}
