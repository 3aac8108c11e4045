package tests

import (
	"fmt"
	"math"
	"slices"
	"strings"
	"testing"

	"loop.example/g00009/impl"
)

// fullCode has parts of all kinds, with all that parts have.
func fullCode() impl.Code {
	none := impl.Const{}
	ends := []impl.Instr{{Op: impl.IConst}, {Op: impl.IReturn}}
	names := []impl.NameHow{{Name: "a", How: impl.HowLocal}, {Name: "b", How: impl.HowCell}, {Name: "c", How: impl.HowFree}, {Name: "d", How: impl.HowGlobal}, {Name: "e", How: impl.HowLocal}}
	gathers := []impl.Instr{{Op: impl.IPop}, {Op: impl.IReturn}}
	return impl.Code{Parts: []impl.Part{
		{Name: "<module>", Line: 1, Names: []impl.NameHow{{Name: "a", How: impl.HowGlobal}, {Name: "b", How: impl.HowGlobal}}, Consts: []impl.Const{none, {Kind: impl.ConstInt, Text: "-12"}, {Kind: impl.ConstFloat, Text: "1.5"}, {Kind: impl.ConstText, Text: "a"}}, Words: []string{"a", "b"}, Pats: []impl.Tree{{Nodes: []impl.Node{{Kind: impl.PCapture, Line: 1, Text: "x"}}}}, Instrs: ends},
		{Name: "f", Kind: impl.ScFunction, Line: 2, Params: []impl.Param{{Name: "e", Op: 1}, {Name: "a", Op: 2}, {Name: "b", Op: 3}}, Names: names, Consts: []impl.Const{none}, Instrs: ends},
		{Name: "K", Kind: impl.ScClass, Line: 3, Names: []impl.NameHow{{Name: "a", How: impl.HowClass}, {Name: "b", How: impl.HowFree}, {Name: "c", How: impl.HowGlobal}}, Consts: []impl.Const{none}, Instrs: ends},
		{Name: "<comp>", Kind: impl.ScComp, Form: impl.FormList, Line: 4, Names: names, Instrs: gathers},
		{Name: "<comp>", Kind: impl.ScComp, Form: impl.FormSet, Line: 4, Instrs: gathers},
		{Name: "<comp>", Kind: impl.ScComp, Form: impl.FormDict, Line: 4, Instrs: gathers},
		{Name: "<gen>", Kind: impl.ScComp, Form: impl.FormGen, Gen: true, Line: 5, Consts: []impl.Const{none}, Instrs: ends},
		{Name: "<lambda>", Kind: impl.ScFunction, Gen: true, Line: 6, Consts: []impl.Const{none}, Instrs: ends},
	}}
}

// wantTaken asks all who take code whether they take this one.
func wantTaken(t *testing.T, what string, c impl.Code, want bool) {
	t.Helper()
	if impl.CodeOk(c) != want {
		t.Errorf("%s: %v", what, !want)
	}
	if n := impl.Measure(c); (n >= 0) != want || n < -1 {
		t.Errorf("%s: Measure %d", what, n)
	}
	if n := len(impl.Improve(c).Parts); (n > 0) != want {
		t.Errorf("%s: Improve answers %d parts", what, n)
	}
	if n := len(impl.Depths(c)); want && n != len(c.Parts) || !want && n != 0 {
		t.Errorf("%s: Depths of %d parts", what, n)
	}
	if b, ok := impl.PackCode(c); ok != want || (len(b) > 0) != want {
		t.Errorf("%s: PackCode %d bytes, %v", what, len(b), ok)
	}
	if o := impl.RunCode(c, 0); (o.Code != impl.OutArgs) != want || !want && !sameOut(o, impl.Out{Code: impl.OutArgs}) {
		t.Errorf("%s: RunCode %s", what, outTold(o))
	}
	if linesAreOne(c) {
		wantTakenBytes(t, what, c, want)
	}
}

// linesAreOne tells whether bytes can tell all of patterns, of which they have no
// Lines.
func linesAreOne(c impl.Code) bool {
	for _, p := range c.Parts {
		for _, tree := range p.Pats {
			if slices.ContainsFunc(tree.Nodes, func(n impl.Node) bool { return n.Line != 1 }) {
				return false
			}
		}
	}
	return true
}

func wantTakenBytes(t *testing.T, what string, c impl.Code, want bool) {
	t.Helper()
	if d, code := impl.ReadCode(packedRule(c)); (code == impl.PackOk) != want || !want && (code != impl.PackForm || len(d.Parts) > 0) {
		t.Errorf("%s: ReadCode %d", what, code)
	}
}

// wantCodeOk changes full code, and holds what all who take code say against it.
func wantCodeOk(t *testing.T, what string, want bool, change func(c *impl.Code)) {
	t.Helper()
	c := copyCode(fullCode())
	change(&c)
	wantTaken(t, what, c, want)
}

// wantPart changes one part of full code.
func wantPart(t *testing.T, what string, at int, want bool, change func(p *impl.Part)) {
	t.Helper()
	wantCodeOk(t, fmt.Sprint(what, " in part ", at), want, func(c *impl.Code) { change(&c.Parts[at]) })
}

func TestP12Parts(t *testing.T) {
	wantCodeOk(t, "all", true, func(*impl.Code) {})
	wantCodeOk(t, "no parts", false, func(c *impl.Code) { c.Parts = nil })
	wantCodeOk(t, "no module", false, func(c *impl.Code) { c.Parts = c.Parts[1:] })
	wantCodeOk(t, "another module", false, func(c *impl.Code) { c.Parts = append(c.Parts, c.Parts[0]) })
	wantCodeOk(t, "a module behind", false, func(c *impl.Code) { c.Parts[0], c.Parts[1] = c.Parts[1], c.Parts[0] })
	wantCodeOk(t, "the module alone", true, func(c *impl.Code) { c.Parts = c.Parts[:1] })
	for i, p := range fullCode().Parts {
		for kind := int64(-1); kind <= 4; kind++ {
			// A function may be one with Gen, and one without parameters a class.
			want := kind == p.Kind
			wantPart(t, fmt.Sprint("kind ", kind), i, want, func(p *impl.Part) {
				if p.Kind != kind {
					p.Names = nil
				}
				p.Kind = kind
				if p.Kind == impl.ScFunction && i == 2 || p.Kind == impl.ScClass && (i == 1 || i == 7) {
					p.Form = 9
				}
			})
		}
		for form := int64(-1); form <= 5; form++ {
			want := form == p.Form || p.Kind == impl.ScComp && p.Form < impl.FormGen && form >= 1 && form <= 3
			wantPart(t, fmt.Sprint("form ", form), i, want, func(p *impl.Part) { p.Form = form })
		}
		wantPart(t, "the other gen", i, p.Kind == impl.ScFunction, func(p *impl.Part) { p.Gen = !p.Gen })
		for line, want := range map[int64]bool{-1: false, 0: false, 1: true, math.MaxInt64: true} {
			wantPart(t, fmt.Sprint("line ", line), i, want, func(p *impl.Part) { p.Line = line })
		}
		for name, want := range map[string]bool{"": true, "é": true, "\xff": false, strings.Repeat("a", impl.MaxText): true, strings.Repeat("a", impl.MaxText+1): false} {
			wantPart(t, fmt.Sprintf("name %.9q", name), i, want, func(p *impl.Part) { p.Name = name })
			wantPart(t, fmt.Sprintf("word %.9q", name), i, want, func(p *impl.Part) { p.Words = append(p.Words, name) })
		}
		wantPart(t, "no instructions", i, false, func(p *impl.Part) { p.Instrs = nil })
	}
}

func TestP12Names(t *testing.T) {
	hows := map[int][]int64{0: {4}, 1: {1, 2, 3, 4}, 2: {3, 4, 5}, 3: {1, 2, 3, 4}, 6: {1, 2, 3, 4}}
	for at, list := range hows {
		for how := int64(-1); how <= 6; how++ {
			want := false
			for _, x := range list {
				want = want || x == how
			}
			wantPart(t, fmt.Sprint("how ", how), at, want, func(p *impl.Part) { p.Names = append(p.Names, impl.NameHow{Name: "z", How: how}) })
		}
		how := list[0]
		for _, name := range []string{"", "a", "b", "A"} {
			wantPart(t, "a name that does not ascend: "+name, at, len(fullCode().Parts[at].Names) == 0, func(p *impl.Part) { p.Names = append(p.Names, impl.NameHow{Name: name, How: how}) })
		}
		wantPart(t, "a name that is no text", at, false, func(p *impl.Part) { p.Names = append(p.Names, impl.NameHow{Name: "\xff", How: how}) })
		wantPart(t, "the empty name", at, true, func(p *impl.Part) {
			p.Names = append([]impl.NameHow{{Name: "", How: how}}, p.Names...)
		})
	}
}

func TestP12Params(t *testing.T) {
	for row, want := range map[string]bool{
		"": true, "e1": true, "e1 a1 b1": true, "e1 a2": true, "e2": true, "e4": true, "e3": true, "e1 a2 b3": true, "e1 a3": true, "e1 a2 b4": true, "e1 a4": true, "e2 a4": true, "e2 a3 b4": true, "e3 a3 b3": true,
		"e0": false, "e5": false, "e1 e1": false, "e1 e2": false, "e2 a2": false, "e2 a1": false, "e3 a1": false, "e3 a2": false, "e4 a4": false, "e4 a1": false, "e4 a3": false, "e4 a2": false,
		"c1": false, "d1": false, "x1": false, "e1 d2": false,
	} {
		wantPart(t, "params "+row, 1, want, func(p *impl.Part) {
			p.Params = nil
			for _, word := range strings.Fields(row) {
				p.Params = append(p.Params, impl.Param{Name: word[:1], Op: int64(word[1] - '0')})
			}
		})
	}
	for _, n := range []int{impl.MaxParams, impl.MaxParams + 1} {
		wantPart(t, fmt.Sprint(n, " params"), 1, n == impl.MaxParams, func(p *impl.Part) {
			p.Params, p.Names = nil, nil
			for i := range n {
				name := fmt.Sprintf("p%03d", i)
				p.Params = append(p.Params, impl.Param{Name: name, Op: 1})
				p.Names = append(p.Names, impl.NameHow{Name: name, How: impl.HowLocal})
			}
		})
	}
	for _, at := range []int{0, 2, 3, 6} {
		wantPart(t, "params of no function", at, false, func(p *impl.Part) {
			p.Params = []impl.Param{{Name: "a", Op: 1}}
		})
	}
}

func TestP12Consts(t *testing.T) {
	most := impl.BigText(impl.Big{Mag: fullLimbs(impl.MaxLimbs)}, 10)
	for row, want := range map[string]bool{
		"0 ": true, "1 ": true, "2 ": true, "0 None": false, "1 0": false, "2 1": false,
		"3 0": true, "3 12": true, "3 -12": true, "3 -0": false, "3 012": false, "3 +1": false, "3 ": false, "3 a": false, "3 1.0": false, "3 0x1": false, "3  1": false, "3 " + most: true, "3 -" + most: true, "3 " + most + "0": false,
		"4 1.5": true, "4 0.0": true, "4 -0.0": true, "4 inf": true, "4 -inf": true, "4 nan": false, "4 1": false, "4 1.50": false, "4 1e+16": true, "4 1e16": false, "4 ": false, "4 5e-324": true, "4 1e+400": false, "4 .5": false,
		"5 ": true, "5 a": true, "5 \xff": false, "5 \x00\n": true, "5 " + strings.Repeat("é", impl.MaxText/2): true, "5 " + strings.Repeat("é", impl.MaxText/2) + "a": false,
		"6 ": false, "/ ": false,
	} {
		wantPart(t, fmt.Sprintf("const %.20q", row), 0, want, func(p *impl.Part) {
			p.Consts = append(p.Consts, impl.Const{Kind: int64(row[0]) - '0', Text: row[2:]})
		})
	}
}

func fullLimbs(n int) []uint32 {
	out := make([]uint32, n)
	for i := range out {
		out[i] = math.MaxUint32
	}
	return out
}

// patternOf is the tree of a pattern as Compile has it.
func patternOf(t *testing.T, text string) impl.Tree {
	t.Helper()
	return codeOf(t, "match a:\n case "+text+": a\n").Parts[0].Pats[0]
}

func TestP12Patterns(t *testing.T) {
	put := func(tree impl.Tree) func(p *impl.Part) {
		return func(p *impl.Part) { p.Pats = append(p.Pats, tree) }
	}
	for _, row := range strings.Split(strings.Trim(compiledPatterns, "\n"), "\n") {
		text, _, _ := strings.Cut(row, " => ")
		tree := patternOf(t, text)
		wantPart(t, text, 0, true, put(tree))
		wantPart(t, text, 3, true, put(tree))
		for i := range tree.Nodes {
			for what, change := range map[string]func(n *impl.Node){
				"line 2": func(n *impl.Node) { n.Line = 2 }, "line 0": func(n *impl.Node) { n.Line = 0 }, "another op": func(n *impl.Node) { n.Op += 7 }, "kind 0": func(n *impl.Node) { n.Kind = 0 },
				"a kid more": func(n *impl.Node) { n.Kids = append(n.Kids, 0) }, "kid -1": func(n *impl.Node) { n.Kids = append(n.Kids, -1) }, "kid 99": func(n *impl.Node) { n.Kids = append(n.Kids, 99) }, "itself": func(n *impl.Node) { n.Kids = append(n.Kids, int64(i)) },
				"far": func(n *impl.Node) { n.Kids = append(n.Kids, math.MaxInt64) }, "an expression": func(n *impl.Node) { n.Kind = impl.NCall }, "a key": func(n *impl.Node) { n.Kind, n.Text = impl.PKey, "k" }, "a text that is no name": func(n *impl.Node) { n.Text += " " },
			} {
				bad := copyTree(tree)
				change(&bad.Nodes[i])
				if kind := tree.Nodes[i].Kind; what == "a text that is no name" && kind == impl.NStr || what == "a key" && kind == impl.PKey {
					continue
				}
				wantPart(t, text+": "+what, 0, false, put(bad))
			}
		}
		wantPart(t, text+" and more", 0, false, put(impl.Tree{Nodes: append(copyTree(tree).Nodes, impl.Node{Kind: impl.PAny, Line: 1})}))
		if last := len(tree.Nodes) - 1; last > 0 && tree.Nodes[last].Kind != impl.PAs {
			wantPart(t, text+" without its root", 0, false, put(impl.Tree{Nodes: tree.Nodes[:len(tree.Nodes)-1]}))
		}
	}
	wantPart(t, "no pattern", 0, false, put(impl.Tree{}))
	whole, _ := impl.Parse("a")
	wantPart(t, "a file", 0, false, put(whole))
	name := impl.Node{Kind: impl.NName, Line: 1, Text: "a"}
	wantPart(t, "an expression", 0, false, put(impl.Tree{Nodes: []impl.Node{name}}))
	wantPart(t, "a name as a value", 0, false, put(impl.Tree{Nodes: []impl.Node{name, {Kind: impl.PValue, Line: 1, Kids: []int64{0}}}}))
	wantPart(t, "a keyword", 0, false, put(impl.Tree{Nodes: []impl.Node{{Kind: impl.PCapture, Line: 1, Text: "if"}}}))
	wantPart(t, "a star alone", 0, false, put(impl.Tree{Nodes: []impl.Node{{Kind: impl.PStar, Line: 1, Text: "a"}}}))
	capture := impl.Node{Kind: impl.PCapture, Line: 1, Text: "a"}
	wantPart(t, "a name twice", 0, false, put(impl.Tree{Nodes: []impl.Node{capture, capture, {Kind: impl.PSeq, Line: 1, Kids: []int64{0, 1}}}}))
	wantPart(t, "what always fits first", 0, false, put(impl.Tree{Nodes: []impl.Node{capture, capture, {Kind: impl.POr, Line: 1, Kids: []int64{0, 1}}}}))
}

// The greatest patterns that a tree can have.
func TestP12LargePatterns(t *testing.T) {
	deep := func(n int) impl.Tree {
		nodes := []impl.Node{{Kind: impl.PAny, Line: 1}}
		for i := range n {
			nodes = append(nodes, impl.Node{Kind: impl.PAs, Line: 1, Text: fmt.Sprint("a", i), Kids: []int64{int64(i)}})
		}
		return impl.Tree{Nodes: nodes}
	}
	wide := func(n int) impl.Tree {
		seq := impl.Node{Kind: impl.PSeq, Line: 1}
		nodes := []impl.Node{}
		for i := range n {
			nodes = append(nodes, impl.Node{Kind: impl.PAny, Line: 1})
			seq.Kids = append(seq.Kids, int64(i))
		}
		return impl.Tree{Nodes: append(nodes, seq)}
	}
	long := func(n int) impl.Tree {
		return impl.Tree{Nodes: []impl.Node{{Kind: impl.NStr, Line: 1, Text: strings.Repeat("a", n)}, {Kind: impl.PValue, Line: 1, Kids: []int64{0}}}}
	}
	for i, row := range []struct {
		tree impl.Tree
		want bool
	}{
		{deep(59), true}, {deep(98), false}, {wide(5000), true}, {wide(5450), true}, {wide(5999), false},
		// match _:\n    case '..':\n        _\n
		{long(impl.MaxText - 32), true}, {long(impl.MaxText), false},
	} {
		wantPart(t, fmt.Sprint("pattern ", i), 0, row.want, func(p *impl.Part) { p.Pats = append(p.Pats, row.tree) })
	}
}
