package tests

import (
	"fmt"
	"slices"
	"strings"
	"testing"

	"loop.example/g00009/impl"
)

// headTold is what a part has beside its instructions.
func headTold(p impl.Part) string {
	return fmt.Sprintf("%s kind=%d form=%d gen=%v line=%d params=%v names=%v", p.Name, p.Kind, p.Form, p.Gen, p.Line, p.Params, p.Names)
}

// headRows have for each part of a text a line.
var headRows = [][]string{
	{"", "<module> kind=0 form=0 gen=false line=1 params=[] names=[]"},
	{"\n\na\n", "<module> kind=0 form=0 gen=false line=3 params=[] names=[{a 4}]"},
	{"\ndef f(a, b=c, *d, e, **g):\n  return h\n",
		"<module> kind=0 form=0 gen=false line=2 params=[] names=[{c 4} {f 4}]",
		"f kind=1 form=0 gen=false line=2 params=[{a 1} {b 1} {d 2} {e 3} {g 4}] names=[{a 1} {b 1} {d 1} {e 1} {g 1} {h 4}]"},
	{"@x\ndef f():\n  yield\n",
		"<module> kind=0 form=0 gen=false line=1 params=[] names=[{f 4} {x 4}]",
		"f kind=1 form=0 gen=true line=2 params=[] names=[]"},
	{"a = (\n  lambda b,\n  *, c: b)\n",
		"<module> kind=0 form=0 gen=false line=1 params=[] names=[{a 4}]",
		"<lambda> kind=1 form=0 gen=false line=2 params=[{b 1} {c 3}] names=[{b 1} {c 1}]"},
	{"lambda: (yield from a)\n",
		"<module> kind=0 form=0 gen=false line=1 params=[] names=[]",
		"<lambda> kind=1 form=0 gen=true line=1 params=[] names=[{a 4}]"},
	{"@x\n\nclass A(b):\n  c = d\n  def f(): c\n",
		"<module> kind=0 form=0 gen=false line=1 params=[] names=[{A 4} {b 4} {x 4}]",
		"A kind=2 form=0 gen=false line=3 params=[] names=[{c 5} {d 4} {f 5}]",
		"f kind=1 form=0 gen=false line=5 params=[] names=[{c 4}]"},
	{"[\n  [a for a in b],\n  {a for a in b},\n  {a: c for a in b},\n  (a for a in b)]\n",
		"<module> kind=0 form=0 gen=false line=1 params=[] names=[{b 4}]",
		"<comp> kind=3 form=1 gen=false line=2 params=[] names=[{a 1}]",
		"<comp> kind=3 form=2 gen=false line=3 params=[] names=[{a 1}]",
		"<comp> kind=3 form=3 gen=false line=4 params=[] names=[{a 1} {c 4}]",
		"<gen> kind=3 form=4 gen=true line=5 params=[] names=[{a 1}]"},
	{"def f(a):\n  b = 1\n  def g(c):\n    nonlocal b\n    return [a + b + d for d in c]\n",
		"<module> kind=0 form=0 gen=false line=1 params=[] names=[{f 4}]",
		"f kind=1 form=0 gen=false line=1 params=[{a 1}] names=[{a 2} {b 2} {g 1}]",
		"g kind=1 form=0 gen=false line=3 params=[{c 1}] names=[{a 3} {b 3} {c 1}]",
		"<comp> kind=3 form=1 gen=false line=5 params=[] names=[{a 3} {b 3} {d 1}]"},
	{"def f(a):\n  class A:\n    a = a\n    def g(self): return a\n",
		"<module> kind=0 form=0 gen=false line=1 params=[] names=[{f 4}]",
		"f kind=1 form=0 gen=false line=1 params=[{a 1}] names=[{A 1} {a 2}]",
		"A kind=2 form=0 gen=false line=2 params=[] names=[{a 5} {g 5}]",
		"g kind=1 form=0 gen=false line=4 params=[{self 1}] names=[{a 3} {self 1}]"},
	{"def f(x=lambda: [i for i in y]): return {j for j in z}\nclass A(lambda: 1): lambda: 2\n(k for k in (lambda: 3))\n",
		"<module> kind=0 form=0 gen=false line=1 params=[] names=[{A 4} {f 4}]",
		"f kind=1 form=0 gen=false line=1 params=[{x 1}] names=[{x 1} {z 4}]",
		"<lambda> kind=1 form=0 gen=false line=1 params=[] names=[{y 4}]",
		"<comp> kind=3 form=1 gen=false line=1 params=[] names=[{i 1}]",
		"<comp> kind=3 form=2 gen=false line=1 params=[] names=[{j 1}]",
		"A kind=2 form=0 gen=false line=2 params=[] names=[]",
		"<lambda> kind=1 form=0 gen=false line=2 params=[] names=[]",
		"<lambda> kind=1 form=0 gen=false line=2 params=[] names=[]",
		"<gen> kind=3 form=4 gen=true line=3 params=[] names=[{k 1}]",
		"<lambda> kind=1 form=0 gen=false line=3 params=[] names=[]"},
}

func TestP11Heads(t *testing.T) {
	for _, row := range headRows {
		c := codeOf(t, row[0])
		got := []string{}
		for _, p := range c.Parts {
			got = append(got, headTold(p))
		}
		if !slices.Equal(got, row[1:]) {
			t.Errorf("%s\n has %s\n not %s", row[0], strings.Join(got, "\n"), strings.Join(row[1:], "\n"))
		}
	}
}

// A part's Kind, Gen and Names are its scope's, and its Line its node's.
func TestP11PartsAreScopes(t *testing.T) {
	for i := range int64(400) {
		src := newScopeWriter(i + 70000).program()
		tree, fault := impl.Parse(src)
		if fault.Code != 0 {
			t.Fatal(src, fault)
		}
		scopes, fault := impl.Scopes(tree)
		c, other := impl.Compile(tree)
		if fault != other || len(c.Parts) != len(scopes) {
			t.Fatal(src, fault, other)
		}
		for k, s := range scopes {
			p := c.Parts[k]
			if p.Kind != s.Kind || p.Gen != s.Gen || p.Line != tree.Nodes[s.Node].Line || !slices.Equal(p.Names, s.Names) {
				t.Fatal(src, headTold(p))
			}
		}
	}
}

// compiledPatterns are patterns, and what their trees are: kinds with Ops and Texts, in
// postorder, and the places of the Kids.
const compiledPatterns = `
1 => Int:1[] PValue[0]
-1 => Int:1[] Unary2[0] PValue[1]
'a' => Str:a[] PValue[0]
None => Const[] PValue[0]
True => Const2[] PValue[0]
a => PCapture:a[]
_ => PAny[]
a.b.c => Name:a[] Attr:b[0] Attr:c[1] PValue[2]
[a, *b, _] => PCapture:a[] PStar:b[] PAny[] PSeq[0 1 2]
a, *_ => PCapture:a[] PStar[] PSeq[0 1]
[] => PSeq[]
{1: a, b.c: 2, **d} => Int:1[] PCapture:a[] PPair[0 1] Name:b[] Attr:c[3] Int:2[] PValue[5] PPair[4 6] PRest:d[] PMap[2 7 8]
{} => PMap[]
A() => Name:A[] PClass[0]
a.B(1, c, d=_) => Name:a[] Attr:B[0] Int:1[] PValue[2] PCapture:c[] PAny[] PKey:d[5] PClass[1 3 4 6]
1 | 2 | None => Int:1[] PValue[0] Int:2[] PValue[2] Const[] PValue[4] POr[1 3 5]
[1, (a)] as b => Int:1[] PValue[0] PCapture:a[] PSeq[1 2] PAs:b[3]
(1 | 2) as a => Int:1[] PValue[0] Int:2[] PValue[2] POr[1 3] PAs:a[4]
`

func patternTold(tree impl.Tree) string {
	words := []string{}
	for _, n := range tree.Nodes {
		word := nodeWord(n.Kind)
		if n.Op != 0 {
			word += fmt.Sprint(n.Op)
		}
		if n.Text != "" {
			word += ":" + n.Text
		}
		if n.Line != 1 {
			word += fmt.Sprint("@", n.Line)
		}
		words = append(words, word+fmt.Sprint(n.Kids))
	}
	return strings.Join(words, " ")
}

func TestP11Patterns(t *testing.T) {
	src, want := "z = 1\nmatch a:\n", []string{}
	for _, row := range strings.Split(strings.Trim(compiledPatterns, "\n"), "\n") {
		pattern, told, _ := strings.Cut(row, " => ")
		c := codeOf(t, "\n\nx(y)\nmatch a:\n  case "+pattern+": b\n")
		if pats := c.Parts[0].Pats; len(pats) != 1 || patternTold(pats[0]) != told {
			t.Errorf("%s is %v, not %s", pattern, pats, told)
		}
		if !impl.CodeOk(c) {
			t.Error(pattern, "can't be run")
		}
		src += " case " + pattern + ": pass\n case " + pattern + " if c: pass\n"
		want = append(want, told, told)
	}
	// As they come, the same one twice, too; nests of matches in turn.
	p := codeOf(t, src).Parts[0]
	got := []string{}
	for _, tree := range p.Pats {
		got = append(got, patternTold(tree))
	}
	if !slices.Equal(got, want) {
		t.Error(got)
	}
	p = codeOf(t, "match a:\n case 1:\n  match b:\n   case 2: pass\n case 3: pass\ndef f():\n match a:\n  case 4: pass\nmatch c:\n case 5: pass\n").Parts[0]
	got = nil
	for _, tree := range p.Pats {
		got = append(got, tree.Nodes[0].Text)
	}
	if !slices.Equal(got, []string{"1", "2", "3", "5"}) {
		t.Error(got)
	}
}

func TestP11Faults(t *testing.T) {
	for src, line := range map[string]int64{
		"nonlocal a": 1, "def f(a):\n  global a": 2, "\n[(i := 0) for i in 0]": 2, "class K: [(a := i) for i in 0]": 1,
		"def f():\n\n  [(yield) for i in 0]": 3, "global a\nnonlocal a": 2,
	} {
		tree, fault := impl.Parse(src)
		if fault.Code != 0 {
			t.Fatal(src, fault)
		}
		c, fault := impl.Compile(tree)
		if fault != (impl.Fault{Code: impl.FaultScope, Line: line}) || len(c.Parts) != 0 {
			t.Error(src, fault, codeTold(c))
		}
	}
	good, _ := impl.Parse("a = b\n")
	for i, tree := range []impl.Tree{
		{}, {Nodes: []impl.Node{{Kind: impl.NPass, Line: 1}}}, {Nodes: good.Nodes[:2]}, deepTree(102), wideTree(6001),
		{Nodes: append(slices.Clone(good.Nodes), impl.Node{Kind: impl.NFile, Line: 1, Kids: []int64{100}})},
		{Nodes: append(slices.Clone(good.Nodes), impl.Node{Kind: impl.NFile, Line: 1, Kids: []int64{-1}})},
	} {
		c, fault := impl.Compile(tree)
		if fault != (impl.Fault{Code: impl.FaultForm}) || len(c.Parts) != 0 {
			t.Error(i, fault, codeTold(c))
		}
	}
	for i := range good.Nodes {
		bad := copyTree(good)
		bad.Nodes[i].Line = 0
		if c, fault := impl.Compile(bad); fault != (impl.Fault{Code: impl.FaultForm}) || len(c.Parts) != 0 {
			t.Error(i, fault)
		}
	}
}

// largest are texts of trees at the limits of chapter 5.
func largest() []string {
	deep := "a" + strings.Repeat(".b", 98)
	return []string{
		deep, strings.Repeat("-", 98) + "a", strings.Repeat("not ", 98) + "a", strings.Repeat("lambda:", 49) + "a",
		strings.Repeat("a;", 2999), strings.Repeat("pass;", 2340), strings.Repeat("assert a;", 1490),
		strings.Repeat("a,", 5990) + " = b", "[" + strings.Repeat("a,", 5990) + "*b] = c", "for " + strings.Repeat("a,", 5990) + " in b: c",
		"a" + strings.Repeat("<a", 2990), "a" + strings.Repeat(" and a", 49), "f(" + strings.Repeat("a,", 5990) + ")",
		strings.Repeat("lambda:a;", 1490), strings.Repeat("[a for a in b];", 990), strings.Repeat("()\n", 2990), strings.Repeat("for a in b:a\n", 990),
		"match a:\n" + strings.Repeat(" case b:c\n", 990), "try: a\n" + strings.Repeat("except a:b\n", 990), "def f(" + manyNames(60) + "): pass",
		"match a:\n case " + strings.Repeat("[", 50) + "a" + strings.Repeat("]", 50) + ": a", "match a:\n case " + strings.Repeat("b.", 90) + "c: a",
		"match a:\n case [" + strings.Repeat("1,", 2990) + "]: a", "import a\n" + strings.Repeat("import a\n", 1700),
	}
}

func TestP11LargestTrees(t *testing.T) {
	compiled := 0
	for _, src := range largest() {
		tree, fault := impl.Parse(src)
		if fault.Code != 0 {
			t.Errorf("%.40s: %v", src, fault)
			continue
		}
		if !impl.TreeOk(tree) {
			if _, fault := impl.Compile(tree); fault.Code != impl.FaultForm {
				t.Errorf("%.40s: %v", src, fault)
			}
			continue
		}
		compiled++
		if !wantByRule(t, src) {
			t.Errorf("%.40s has a fault", src)
		}
		c := codeOf(t, src)
		if !impl.CodeOk(c) {
			t.Errorf("%.40s can't be run", src)
		}
		wantImproved(t, c)
	}
	if compiled < 12 {
		t.Error("too few trees are at the limits:", compiled)
	}
}
