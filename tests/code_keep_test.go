package tests

import (
	"slices"
	"testing"

	"loop.example/g00009/impl"
)

// keepTrees are trees with code, without, and ones that are none.
func keepTrees(t *testing.T) []impl.Tree {
	out := []impl.Tree{{}, {Nodes: []impl.Node{{Kind: impl.NPass, Line: 1}}}, deepTree(102)}
	list := append(programs(), "", "nonlocal a", "a = 1 + 2\nlambda x, *y, z=a: [x for b in y]\n", "match a:\n case [1, *b] | {2: b, **_}: a\n case K(x, y=z) as w: b\n")
	for i := range int64(60) {
		list = append(list, foldProgram(i), newScopeWriter(i+300).program(), drawnProgram(i))
	}
	for _, src := range list {
		if tree, fault := impl.Parse(src); fault.Code == 0 {
			out = append(out, tree)
		}
	}
	if len(out) < 150 {
		t.Fatal("too few trees")
	}
	return out
}

func keepCodes(t *testing.T) []impl.Code {
	out := []impl.Code{{}, {Parts: []impl.Part{{}}}, fullCode(), moduleOf("Const=1 Const=2 Binary=6 Return"), moduleOf("Const=1 Return Return")}
	for _, tree := range keepTrees(t) {
		c, _ := impl.Compile(tree)
		out = append(out, c)
	}
	bad := codeOf(t, "a = 1 + 2")
	bad.Parts[0].Instrs[0].Arg = 0
	return append(out, bad)
}

// listsOf are the lists of code: what fills each of them, with the spare room behind
// it, with other things.
func listsOf(c impl.Code) []func() {
	out := []func(){}
	add := func(fill func()) { out = append(out, fill) }
	for i := range c.Parts {
		p := &c.Parts[i]
		params, names, consts, words, pats, instrs := p.Params, p.Names, p.Consts, p.Words, p.Pats, p.Instrs
		for _, tree := range pats {
			for _, n := range tree.Nodes {
				add(func() { filled(n.Kids, -77) })
			}
			nodes := tree.Nodes
			add(func() { filled(nodes, impl.Node{Kind: -1, Text: "overwritten"}) })
		}
		add(func() { filled(params, impl.Param{Name: "overwritten", Op: -7}) })
		add(func() { filled(names, impl.NameHow{Name: "overwritten", How: -7}) })
		add(func() { filled(consts, impl.Const{Kind: -7, Text: "overwritten"}) })
		add(func() { filled(words, "overwritten") })
		add(func() { filled(instrs, impl.Instr{Op: -7, Arg: -7}) })
		add(func() { filled(pats, impl.Tree{}) })
	}
	parts := c.Parts
	add(func() { filled(parts, impl.Part{Name: "overwritten"}) })
	return out
}

func filled[T any](list []T, x T) {
	list = list[:cap(list)]
	for i := range list {
		list[i] = x
	}
}

func overwriteCode(c impl.Code) {
	for _, fill := range listsOf(c) {
		fill()
	}
}

// spareIsThere tells whether all spare room behind the lists of code is as copyCode
// leaves it: the zero value.
func spareIsThere(c impl.Code) bool {
	for _, p := range c.Parts {
		ok := spareOf(p.Params) && spareOf(p.Names) && spareOf(p.Consts) && spareOf(p.Words) && spareOf(p.Instrs)
		for _, tree := range p.Pats[:cap(p.Pats)][len(p.Pats):] {
			ok = ok && tree.Nodes == nil
		}
		for _, tree := range p.Pats {
			for _, n := range tree.Nodes {
				ok = ok && spareOf(n.Kids)
			}
			for _, n := range tree.Nodes[:cap(tree.Nodes)][len(tree.Nodes):] {
				ok = ok && n.Kind == 0 && n.Kids == nil
			}
		}
		if !ok {
			return false
		}
	}
	return true
}

func spareOf[T comparable](list []T) bool {
	var zero T
	return !slices.ContainsFunc(list[:cap(list)][len(list):], func(x T) bool { return x != zero })
}

func TestP20CompiledTheSameTwice(t *testing.T) {
	for i, tree := range keepTrees(t) {
		first, fault := impl.Compile(tree)
		kept := copyCode(first)
		second, again := impl.Compile(copyTree(tree))
		if fault != again || !sameCode(second, kept) {
			t.Fatal(i, "other code the second time")
		}
		overwriteCode(first)
		third, again := impl.Compile(tree)
		if fault != again || !sameCode(second, kept) || !sameCode(third, kept) {
			t.Fatal(i, "what was answered is kept")
		}
	}
}

func TestP20CompileLeavesTreesAlone(t *testing.T) {
	for _, tree := range keepTrees(t) {
		given := withSpare(tree)
		c, _ := impl.Compile(given)
		overwriteCode(c)
		wantAsItWas(t, "Compile", given, tree)
	}
}

func TestP20ImprovedTheSameTwice(t *testing.T) {
	for i, c := range keepCodes(t) {
		first := impl.Improve(c)
		kept := copyCode(first)
		second := impl.Improve(copyCode(c))
		if !sameCode(second, kept) || impl.Measure(c) != impl.Measure(copyCode(c)) || impl.CodeOk(c) != impl.CodeOk(copyCode(c)) {
			t.Fatal(i, "another answer the second time")
		}
		overwriteCode(first)
		if third := impl.Improve(c); !sameCode(second, kept) || !sameCode(third, kept) {
			t.Fatal(i, "what was answered is kept")
		}
	}
}

func TestP20CodeIsLeftAlone(t *testing.T) {
	for i, c := range keepCodes(t) {
		given := copyCode(c)
		d := impl.Improve(given)
		impl.Measure(given)
		impl.CodeOk(given)
		overwriteCode(d)
		if !sameCode(given, c) || !spareIsThere(given) {
			t.Fatal(i, "code was written into")
		}
	}
}

// TestP20ListsOfCodeShareNothing fills the lists of an answer one by one, with the
// spare room behind them: the others stay as they are.
func TestP20ListsOfCodeShareNothing(t *testing.T) {
	for i, c := range keepCodes(t) {
		if len(c.Parts) > 12 {
			continue
		}
		for k := range listsOf(impl.Improve(c)) {
			wantOthersAlone(t, i, impl.Improve(c), k)
		}
	}
	for i, tree := range keepTrees(t) {
		c, _ := impl.Compile(tree)
		if len(c.Parts) > 8 {
			continue
		}
		for k := range listsOf(c) {
			c, _ := impl.Compile(tree)
			wantOthersAlone(t, i, c, k)
		}
	}
}

// wantOthersAlone fills list k of code, and that of a copy in which nothing is
// shared: both are the same then.
func wantOthersAlone(t *testing.T, what int, c impl.Code, k int) {
	t.Helper()
	alone := copyCode(c)
	listsOf(c)[k]()
	listsOf(alone)[k]()
	if !sameCode(c, alone) {
		t.Fatal(what, "lists of code share memory:", k)
	}
}

// textsOf are all texts of code.
func textsOf(c impl.Code) []string {
	out := []string{}
	for _, p := range c.Parts {
		out = append(out, p.Name)
		out = append(out, p.Words...)
		for _, x := range p.Params {
			out = append(out, x.Name)
		}
		for _, x := range p.Names {
			out = append(out, x.Name)
		}
		for _, x := range p.Consts {
			out = append(out, x.Text)
		}
		for _, tree := range p.Pats {
			for _, n := range tree.Nodes {
				out = append(out, n.Text)
			}
		}
	}
	return out
}

func TestP20TextsOfCodeAreNew(t *testing.T) {
	for i, tree := range keepTrees(t) {
		c, _ := impl.Compile(tree)
		if len(tree.Nodes) > 400 {
			continue
		}
		texts := []string{}
		for _, n := range tree.Nodes {
			texts = append(texts, n.Text)
		}
		wantUnshared(t, i, textsOf(c), texts)
		wantUnshared(t, i, textsOf(impl.Improve(c)), textsOf(c))
	}
}

func wantUnshared(t *testing.T, what int, texts []string, others []string) {
	t.Helper()
	for _, a := range texts {
		for _, b := range others {
			if sharesMemory(a, b) {
				t.Fatalf("%d: %q is memory of what was given", what, a)
			}
		}
	}
}
