package tests

import (
	"cmp"
	"slices"
	"strings"
	"testing"

	"loop.example/g00009/impl"
)

// scopeFact is a thing that a scope does with a name.
type scopeFact struct {
	scope int64
	what  string
	name  string
}

// scopeRules say a second time what chapter 6 says, one rule at a time: each node
// looks outward for the scope it belongs to, and each question of a name is asked
// anew. A scope is named by its node.
type scopeRules struct {
	tree  impl.Tree
	above []int64
	slot  []int
	all   []int64
	// The facts in the order of the text, with their lines; and those that hold.
	facts []scopeFact
	at    []int64
	holds map[scopeFact]bool
	// The lines of faults.
	lines []int64
	known map[int64]map[string]bool
}

func newScopeRules(tree impl.Tree) *scopeRules {
	n := len(tree.Nodes)
	r := &scopeRules{tree: tree, above: make([]int64, n), slot: make([]int, n), holds: map[scopeFact]bool{}, known: map[int64]map[string]bool{}}
	r.above[n-1] = -1
	for i, node := range tree.Nodes {
		for j, kid := range node.Kids {
			r.above[kid], r.slot[kid] = int64(i), j
		}
	}
	r.all = scopeNodes(tree, int64(n-1))
	for i := range tree.Nodes {
		r.look(int64(i))
	}
	return r
}

func (r *scopeRules) kind(at int64) int64 { return r.tree.Nodes[at].Kind }

func (r *scopeRules) scopeKind(at int64) int64 {
	kind, _ := kindOfScope(r.kind(at))
	return kind
}

// owner is the scope to which a node belongs as a whole: a def, a lambda and
// whatever else has a scope belong to the one around them.
func (r *scopeRules) owner(at int64) int64 {
	came := -1
	for {
		up, slot := r.above[at], r.slot[at]
		if up < 0 {
			return -1
		}
		if _, ok := kindOfScope(r.kind(up)); ok && r.isWithin(up, slot, came) {
			return up
		}
		at, came = up, slot
	}
}

// isWithin tells whether what is at a slot of a node, or in the slot came of
// that, belongs to the node's own scope.
func (r *scopeRules) isWithin(up int64, slot int, came int) bool {
	switch r.scopeKind(up) {
	case impl.ScModule:
		return true
	case impl.ScComp:
		kids := r.tree.Nodes[up].Kids
		first := slices.IndexFunc(kids, func(kid int64) bool { return r.kind(kid) == impl.NFor })
		return slot != first || came != 1
	}
	return slot == 1
}

// add tells that a scope does that with the name of a node, if that has one.
func (r *scopeRules) add(scope int64, at int64, what string) {
	if n := r.tree.Nodes[at]; n.Text != "" {
		f := scopeFact{scope, what, n.Text}
		r.facts, r.at, r.holds[f] = append(r.facts, f), append(r.at, n.Line), true
	}
}

// look tells what a node does with a name.
func (r *scopeRules) look(at int64) {
	switch r.kind(at) {
	case impl.NName:
		r.add(r.owner(at), at, r.roleOf(at))
	case impl.NParam:
		r.add(r.above[r.above[at]], at, "bind")
		r.add(r.above[r.above[at]], at, "param")
	case impl.NDef, impl.NClass, impl.NHandler, impl.PCapture, impl.PStar, impl.PRest, impl.PAs:
		r.add(r.owner(at), at, "bind")
	case impl.NWalrus:
		r.lookWalrus(at)
	case impl.NYield, impl.NYieldFrom:
		if r.scopeKind(r.owner(at)) == impl.ScComp {
			r.lines = append(r.lines, r.tree.Nodes[at].Line)
		}
	}
}

func (r *scopeRules) lookWalrus(at int64) {
	scope := r.owner(at)
	for r.scopeKind(scope) == impl.ScComp {
		r.add(scope, at, "walrus")
		scope = r.owner(scope)
	}
	if scope != r.owner(at) && r.scopeKind(scope) == impl.ScClass {
		r.lines = append(r.lines, r.tree.Nodes[at].Line)
	}
	r.add(scope, at, "bind")
}

// roleOf says what an NName is: one that is declared, or at a place for targets,
// in tuples, lists and stars or not, or one that is used.
func (r *scopeRules) roleOf(at int64) string {
	switch r.kind(r.above[at]) {
	case impl.NGlobal:
		return "global"
	case impl.NNonlocal:
		return "nonlocal"
	}
	for {
		up, slot := r.above[at], r.slot[at]
		switch r.kind(up) {
		case impl.NTuple, impl.NList, impl.NStar:
			at = up
			continue
		case impl.NAssign:
			if slot < len(r.tree.Nodes[up].Kids)-1 {
				return "bind"
			}
		case impl.NAug, impl.NLoop, impl.NFor, impl.NDel, impl.NImport, impl.NAlias:
			if slot == 0 {
				return "bind"
			}
		case impl.NWith:
			if slot == 1 {
				return "bind"
			}
		}
		return "use"
	}
}

func (r *scopeRules) does(scope int64, what string, name string) bool {
	return r.holds[scopeFact{scope, what, name}]
}

// meant is the scope around that a name means which a scope does not bind, or
// declares nonlocal; -1 when there is none.
func (r *scopeRules) meant(scope int64, name string) int64 {
	for up := r.owner(scope); up >= 0; up = r.owner(up) {
		if kind := r.scopeKind(up); kind == impl.ScClass || kind == impl.ScModule {
			continue
		}
		if r.does(up, "global", name) {
			return -1
		}
		if r.does(up, "bind", name) && !r.does(up, "nonlocal", name) {
			return up
		}
	}
	return -1
}

func (r *scopeRules) isFree(scope int64, name string) bool {
	switch {
	case r.scopeKind(scope) == impl.ScModule || r.does(scope, "global", name):
		return false
	case r.does(scope, "nonlocal", name):
		return true
	case r.does(scope, "bind", name):
		return false
	}
	return r.meant(scope, name) >= 0
}

func (r *scopeRules) how(scope int64, name string) int64 {
	switch {
	case r.isFree(scope, name):
		return impl.HowFree
	case r.scopeKind(scope) == impl.ScModule || r.does(scope, "global", name) || !r.does(scope, "bind", name):
		return impl.HowGlobal
	case r.scopeKind(scope) == impl.ScClass:
		return impl.HowClass
	}
	for _, inner := range r.all {
		if r.names(inner)[name] && r.isFree(inner, name) && r.meant(inner, name) == scope {
			return impl.HowCell
		}
	}
	return impl.HowLocal
}

// names are those of a scope: its own, and those that are free in scopes in it
// and mean this one or one further out.
func (r *scopeRules) names(scope int64) map[string]bool {
	if r.known[scope] != nil {
		return r.known[scope]
	}
	out := map[string]bool{}
	for _, f := range r.facts {
		if f.scope == scope || r.isIn(f.scope, scope) && r.isFree(f.scope, f.name) && !r.isIn(r.meant(f.scope, f.name), scope) {
			out[f.name] = true
		}
	}
	r.known[scope] = out
	return out
}

// isIn tells whether a scope is within another, at any depth.
func (r *scopeRules) isIn(scope int64, around int64) bool {
	for up := r.owner(scope); up >= 0; up = r.owner(up) {
		if up == around {
			return true
		}
	}
	return false
}

// faults gathers the lines of all that is a fault.
func (r *scopeRules) faults() []int64 {
	declared := map[scopeFact]bool{}
	other := map[string]string{"global": "nonlocal", "nonlocal": "global"}
	for i, f := range r.facts {
		wrong := f.what == "walrus" && r.does(f.scope, "bind", f.name)
		wrong = wrong || f.what == "nonlocal" && r.meant(f.scope, f.name) < 0
		wrong = wrong || other[f.what] != "" && r.does(f.scope, "param", f.name)
		wrong = wrong || declared[scopeFact{f.scope, other[f.what], f.name}]
		if wrong {
			r.lines = append(r.lines, r.at[i])
		}
		if other[f.what] != "" {
			declared[f] = true
		}
	}
	return r.lines
}

func (r *scopeRules) isGen(scope int64) bool {
	if r.scopeKind(scope) != impl.ScFunction {
		return r.kind(scope) == impl.NGenExp
	}
	for i := range r.tree.Nodes {
		if kind := r.kind(int64(i)); (kind == impl.NYield || kind == impl.NYieldFrom) && r.owner(int64(i)) == scope {
			return true
		}
	}
	return false
}

// scopesByRule answers what Scopes is to answer for a tree that is TreeOk.
func scopesByRule(tree impl.Tree) ([]impl.Scope, impl.Fault) {
	r := newScopeRules(tree)
	if lines := r.faults(); len(lines) > 0 {
		return nil, impl.Fault{Code: impl.FaultScope, Line: slices.Min(lines)}
	}
	var list []impl.Scope
	for _, scope := range r.all {
		kind, _ := kindOfScope(r.kind(scope))
		s := impl.Scope{Node: scope, Kind: kind, Up: int64(slices.Index(r.all, r.owner(scope))), Gen: r.isGen(scope)}
		for name := range r.names(scope) {
			s.Names = append(s.Names, impl.NameHow{Name: name, How: r.how(scope, name)})
		}
		slices.SortFunc(s.Names, func(a, b impl.NameHow) int { return cmp.Compare(a.Name, b.Name) })
		list = append(list, s)
	}
	return list, impl.Fault{}
}

func sameScope(a impl.Scope, b impl.Scope) bool {
	return a.Node == b.Node && a.Kind == b.Kind && a.Up == b.Up && a.Gen == b.Gen && slices.Equal(a.Names, b.Names)
}

func sameScopes(a []impl.Scope, b []impl.Scope) bool { return slices.EqualFunc(a, b, sameScope) }

// wantScopeRule wants what the rules say, and what promise 6 says; it answers a
// word for how that went.
func wantScopeRule(t *testing.T, what string, tree impl.Tree) string {
	t.Helper()
	list, fault := impl.Scopes(tree)
	want, wantFault := scopesByRule(tree)
	if fault != wantFault {
		t.Errorf("%s:\nfault %v; wanted %v", what, fault, wantFault)
		return "wrong"
	}
	if fault.Code != 0 {
		if len(list) != 0 {
			t.Errorf("%s:\nscopes beside a fault", what)
		}
		return "fault"
	}
	if !sameScopes(list, want) {
		t.Errorf("%s:\n%s\nwanted\n%s", what, strings.Join(scopesTold(tree, list), "\n"), strings.Join(scopesTold(tree, want), "\n"))
		return "wrong"
	}
	wantFreeNamesHeld(t, what, list)
	return "none"
}

// wantFreeNamesHeld wants each HowFree name to be the HowCell of a scope around,
// the functions and comprehensions between having it as HowFree, and each HowCell
// to be some scope's HowFree.
func wantFreeNamesHeld(t *testing.T, what string, list []impl.Scope) {
	t.Helper()
	held := map[impl.NameHow]bool{}
	for _, s := range list {
		for _, name := range s.Names {
			if name.How != impl.HowFree {
				continue
			}
			up := s.Up
			for up >= 0 && (list[up].Kind == impl.ScClass || howIn(list[up], name.Name) == impl.HowFree) {
				if howIn(list[up], name.Name) == 0 {
					t.Errorf("%s: %s is not in a class between", what, name.Name)
				}
				up = list[up].Up
			}
			if up < 0 || howIn(list[up], name.Name) != impl.HowCell {
				t.Errorf("%s: %s is free, and nowhere held", what, name.Name)
				continue
			}
			held[impl.NameHow{Name: name.Name, How: up}] = true
		}
	}
	for i, s := range list {
		for _, name := range s.Names {
			if name.How == impl.HowCell && !held[impl.NameHow{Name: name.Name, How: int64(i)}] {
				t.Errorf("%s: %s is held for nothing", what, name.Name)
			}
		}
	}
}

// howIn is how a scope means a name, 0 when it has none.
func howIn(s impl.Scope, name string) int64 {
	for _, n := range s.Names {
		if n.Name == name {
			return n.How
		}
	}
	return 0
}
