package tests

import (
	"slices"
	"strconv"
	"strings"
	"testing"

	"loop.example/g00009/impl"
)

// kindOfScope is the Kind of the scope that a kind of node has, if it has one.
func kindOfScope(node int64) (int64, bool) {
	switch node {
	case impl.NFile:
		return impl.ScModule, true
	case impl.NDef, impl.NLambda:
		return impl.ScFunction, true
	case impl.NClass:
		return impl.ScClass, true
	case impl.NListComp, impl.NSetComp, impl.NDictComp, impl.NGenExp:
		return impl.ScComp, true
	}
	return 0, false
}

// howWord is a letter for how a name is meant.
func howWord(how int64) string {
	switch how {
	case impl.HowLocal:
		return "L"
	case impl.HowCell:
		return "C"
	case impl.HowFree:
		return "F"
	case impl.HowGlobal:
		return "G"
	case impl.HowClass:
		return "K"
	}
	return "how" + strconv.FormatInt(how, 10)
}

// scopeTold is a scope as a text: Def:f<0 gen: a=L b=C, the node, the scope
// around, and the names with their letters.
func scopeTold(tree impl.Tree, s impl.Scope) string {
	if s.Node < 0 || s.Node >= int64(len(tree.Nodes)) {
		return "a node that is not there"
	}
	n := tree.Nodes[s.Node]
	out := nodeWord(n.Kind)
	if n.Text != "" {
		out += ":" + n.Text
	}
	if s.Up >= 0 {
		out += "<" + strconv.FormatInt(s.Up, 10)
	}
	if s.Gen {
		out += " gen"
	}
	if len(s.Names) == 0 {
		return out
	}
	words := make([]string, len(s.Names))
	for i, name := range s.Names {
		words[i] = name.Name + "=" + howWord(name.How)
	}
	return out + ": " + strings.Join(words, " ")
}

func scopesTold(tree impl.Tree, list []impl.Scope) []string {
	out := make([]string, len(list))
	for i, s := range list {
		out[i] = scopeTold(tree, s)
	}
	return out
}

// wantScopes wants the scopes of a text, as told.
func wantScopes(t *testing.T, src string, want ...string) {
	t.Helper()
	tree := parsed(t, src)
	list, fault := impl.Scopes(tree)
	if fault != (impl.Fault{}) {
		t.Errorf("%q: fault %d in line %d; wanted\n%s", src, fault.Code, fault.Line, strings.Join(want, "\n"))
		return
	}
	if got := scopesTold(tree, list); !slices.Equal(got, want) {
		t.Errorf("%q:\n%s\nwanted\n%s", src, strings.Join(got, "\n"), strings.Join(want, "\n"))
	}
	wantScopesInOrder(t, tree, list)
}

// wantScopesInOrder wants of scopes what holds for those of every tree: a node
// each, in preorder, its Kind, the module alone with nothing around, all other
// ones within a scope that is told ahead, and names that ascend.
func wantScopesInOrder(t *testing.T, tree impl.Tree, list []impl.Scope) {
	t.Helper()
	var nodes []int64
	for i, s := range list {
		nodes = append(nodes, s.Node)
		if kind, ok := kindOfScope(tree.Nodes[s.Node].Kind); !ok || s.Kind != kind {
			t.Errorf("scope %d of %s has Kind %d", i, nodeWord(tree.Nodes[s.Node].Kind), s.Kind)
		}
		if s.Up >= int64(i) || s.Up < 0 && (i > 0 || s.Up != -1) {
			t.Errorf("scope %d is within %d", i, s.Up)
		}
		for j := 1; j < len(s.Names); j++ {
			if s.Names[j-1].Name >= s.Names[j].Name {
				t.Errorf("%q stands ahead of %q", s.Names[j-1].Name, s.Names[j].Name)
			}
		}
	}
	if !slices.Equal(nodes, scopeNodes(tree, int64(len(tree.Nodes)-1))) {
		t.Errorf("not the nodes that have a scope, in preorder: %v", nodes)
	}
}

// scopeNodes are the places of the nodes that have a scope, at a node and below
// it, in preorder.
func scopeNodes(tree impl.Tree, at int64) []int64 {
	var out []int64
	if _, ok := kindOfScope(tree.Nodes[at].Kind); ok {
		out = append(out, at)
	}
	for _, kid := range tree.Nodes[at].Kids {
		out = append(out, scopeNodes(tree, kid)...)
	}
	return out
}

// wantScopeFault wants a FaultScope in that line, and no scopes.
func wantScopeFault(t *testing.T, src string, line int64) {
	t.Helper()
	list, fault := impl.Scopes(parsed(t, src))
	if fault != (impl.Fault{Code: impl.FaultScope, Line: line}) || len(list) != 0 {
		t.Errorf("%q: fault %d in line %d, %d scopes; wanted a fault in line %d", src, fault.Code, fault.Line, len(list), line)
	}
}

// wantNoScopeFault wants scopes, whichever.
func wantNoScopeFault(t *testing.T, list ...string) {
	t.Helper()
	for _, src := range list {
		if scopes, fault := impl.Scopes(parsed(t, src)); fault != (impl.Fault{}) || len(scopes) == 0 {
			t.Errorf("%q: fault %d in line %d, %d scopes", src, fault.Code, fault.Line, len(scopes))
		}
	}
}
