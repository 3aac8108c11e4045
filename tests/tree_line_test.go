package tests

import (
	"slices"
	"strings"
	"testing"

	"loop.example/g00009/impl"
)

// wantLines wants the tree of a text with its lines, of the statements alone.
func wantLines(t *testing.T, src string, want string) {
	t.Helper()
	tree, fault := impl.Parse(src)
	if fault != (impl.Fault{}) {
		t.Errorf("%q: %v", src, fault)
		return
	}
	var words []string
	for _, kid := range branchOf(tree).kids {
		words = append(words, kid.told(true))
	}
	if got := strings.Join(words, " "); got != want {
		t.Errorf("%q:\n%s; wanted\n%s", src, got, want)
	}
}

func TestP5LineOfFile(t *testing.T) {
	for src, line := range map[string]int64{"": 1, "a": 1, "\n\na": 3, "# note\n\n": 1, "\n\n": 1, "\\\na": 2, "# note\n'''\n\n'''": 2, "\n\n@a\nclass A: pass": 3} {
		if root := branchOf(parsed(t, src)); root.kind != impl.NFile || root.line != line {
			t.Errorf("%q: %s", src, root.told(true))
		}
	}
}

func TestP5LineOfOperators(t *testing.T) {
	wantLines(t, "(a\n+\nb)", "Expr@1(Binary.6@1(Name:a@1 Name:b@3))")
	wantLines(t, "(\na\n+\nb)", "Expr@1(Binary.6@2(Name:a@2 Name:b@4))")
	wantLines(t, "(\n(\na) + b)", "Expr@1(Binary.6@2(Name:a@3 Name:b@3))")
	wantLines(t, "((\na) + b - \nc)", "Expr@1(Binary.7@1(Binary.6@1(Name:a@2 Name:b@2) Name:c@3))")
	wantLines(t, "(a ** \nb **\nc)", "Expr@1(Binary.12@1(Name:a@1 Binary.12@2(Name:b@2 Name:c@3)))")
	wantLines(t, "(\n-\n-\na)", "Expr@1(Unary.2@2(Unary.2@3(Name:a@4)))")
	wantLines(t, "(\nnot\na)", "Expr@1(Not@2(Name:a@3))")
	wantLines(t, "(\na\nor\nb\nand\nc)", "Expr@1(Bool.2@2(Name:a@2 Bool.1@4(Name:b@4 Name:c@6)))")
	wantLines(t, "(\na\n<\nb\nnot\nin\nc\nis\nnot\nd)", "Expr@1(Compare@2(Name:a@2 Cmp.1@3(Name:b@4) Cmp.8@5(Name:c@7) Cmp.10@8(Name:d@10)))")
	wantLines(t, "(\na\nif\nb\nelse\nc)", "Expr@1(Cond@2(Name:b@4 Name:a@2 Name:c@6))")
	wantLines(t, "((\na) if b else c)", "Expr@1(Cond@1(Name:b@2 Name:a@2 Name:c@2))")
	wantLines(t, "(\nlambda\na\n:\nb)", "Expr@1(Lambda@2(Params@3(Param.1:a@3) Name:b@5))")
	wantLines(t, "(\nlambda\n:\na)", "Expr@1(Lambda@2(Params@3 Name:a@4))")
	wantLines(t, "(lambda\n*\na\n,\nb\n=\nc\n,\n**\nd: e)", "Expr@1(Lambda@1(Params@2(Param.2:a@2 Param.3:b@5(Name:c@7) Param.4:d@9) Name:e@10))")
	wantLines(t, "(lambda\n*\n,\na: b)", "Expr@1(Lambda@1(Params@2(Param.3:a@4) Name:b@4))")
}

func TestP5LineOfTails(t *testing.T) {
	wantLines(t, "(\na\n.\nb\n[\nc\n]\n(\nd\n))", "Expr@1(Call@2(Index@2(Attr:b@2(Name:a@2) Name:c@6) Name:d@9))")
	wantLines(t, "((\na)\n.b)", "Expr@1(Attr:b@1(Name:a@2))")
	wantLines(t, "f(\n*\na,\nk\n=\nb,\n**\nc)", "Expr@1(Call@1(Name:f@1 Star@2(Name:a@3) Key:k@4(Name:b@6) KStar@7(Name:c@8)))")
	wantLines(t, "f(\ni\nfor\ni\nin\na\nif\nb)", "Expr@1(Call@1(Name:f@1 GenExp@2(Name:i@2 For@3(Name:i@4 Name:a@6 Name:b@8))))")
	wantLines(t, "a[\nb\n:\nc\n]", "Expr@1(Index@1(Name:a@1 Slice@2(Name:b@2 Name:c@4 Absent@2)))")
	wantLines(t, "a[\n:\nb:\nc]", "Expr@1(Index@1(Name:a@1 Slice@2(Absent@2 Name:b@3 Name:c@4)))")
	wantLines(t, "a[\n:\n:\n,\nb\n]", "Expr@1(Index@1(Name:a@1 Tuple@2(Slice@2(Absent@2 Absent@2 Absent@2) Name:b@5)))")
	wantLines(t, "a[\n(b\n),\nc]", "Expr@1(Index@1(Name:a@1 Tuple@2(Name:b@2 Name:c@4)))")
}

func TestP5LineOfBrackets(t *testing.T) {
	wantLines(t, "(\n)", "Expr@1(Tuple@1)")
	wantLines(t, "a, \\\n(\nb\n,)", "Expr@1(Tuple@1(Name:a@1 Tuple@2(Name:b@3)))")
	wantLines(t, "(\na), b", "Expr@1(Tuple@1(Name:a@2 Name:b@2))")
	wantLines(t, "[\n*\na,\nb]", "Expr@1(List@1(Star@2(Name:a@3) Name:b@4))")
	wantLines(t, "x = \\\n{\na}", "Assign@1(Name:x@1 Set@2(Name:a@3))")
	wantLines(t, "{\na\n:\nb,\n**\nc,\n(\nd): e}", "Expr@1(Dict@1(Pair@2(Name:a@2 Name:b@4) KStar@5(Name:c@6) Pair@7(Name:d@8 Name:e@8)))")
	wantLines(t, "[\na\nfor\nb\n,\nin\nc\nfor d in e]", "Expr@1(ListComp@1(Name:a@2 For@3(Tuple@4(Name:b@4) Name:c@7) For@8(Name:d@8 Name:e@8)))")
	wantLines(t, "{\na:\nb\nfor c in d}", "Expr@1(DictComp@1(Name:a@2 Name:b@3 For@4(Name:c@4 Name:d@4)))")
	wantLines(t, "f(a, (\nb\nfor c in d))", "Expr@1(Call@1(Name:f@1 Name:a@1 GenExp@1(Name:b@2 For@3(Name:c@3 Name:d@3))))")
	wantLines(t, "f(\n(\na\n:=\nb))", "Expr@1(Call@1(Name:f@1 Walrus:a@2(Name:b@5)))")
	wantLines(t, "def f():\n a = \\\n (\n yield\n b)", "Def:f@1(Params@1 Block@1(Assign@2(Name:a@2 Yield@3(Name:b@5))))")
	wantLines(t, "def f():\n a = \\\n yield \\\n from \\\n b", "Def:f@1(Params@1 Block@1(Assign@2(Name:a@2 YieldFrom@3(Name:b@5))))")
}

func TestP5LineOfStrings(t *testing.T) {
	wantLines(t, "(\n'''a\n\nb''' + c)", "Expr@1(Binary.6@2(Str:a\n\nb@2 Name:c@4))")
	wantLines(t, "(\nf'''a\n{b + c!r:d}\n{e}''' + f)", "Expr@1(Binary.6@2(FStr@2(Str:a\n@2 Field.1:d@2(Binary.6@2(Name:b@2 Name:c@2)) Str:\n@2 Field@2(Name:e@2)) Name:f@4))")
	wantLines(t, "\nf'{i for i in a[b:]}'", "Expr@2(FStr@2(Field@2(GenExp@2(Name:i@2 For@2(Name:i@2 Index@2(Name:a@2 Slice@2(Name:b@2 Absent@2 Absent@2)))))))")
}

func TestP5LineOfSimpleStatements(t *testing.T) {
	wantLines(t, "a; b\nc; \\\nd", "Expr@1(Name:a@1) Expr@1(Name:b@1) Expr@2(Name:c@2) Expr@3(Name:d@3)")
	wantLines(t, "\\\na \\\n= \\\nb", "Assign@2(Name:a@2 Name:b@4)")
	wantLines(t, "a \\\n+= \\\nb", "Aug.6@1(Name:a@1 Name:b@3)")
	wantLines(t, "\ndel \\\n(a)", "Del@2(Name:a@3)")
	wantLines(t, "pass\n\npass; \\\npass", "Pass@1 Pass@3 Pass@4")
	wantLines(t, "raise \\\na \\\nfrom \\\nb", "Raise@1(Name:a@2 Name:b@4)")
	wantLines(t, "assert \\\na, \\\nb", "Assert@1(Name:a@2 Name:b@3)")
	wantLines(t, "global \\\na, \\\nb\nnonlocal \\\nc", "Global@1(Name:a@2 Name:b@3) Nonlocal@4(Name:c@5)")
	wantLines(t, "import \\\na", "Import:a@1(Name:a@2)")
	wantLines(t, "import \\\na \\\nas \\\nb", "Import:a@1(Name:b@4)")
	wantLines(t, "from \\\na \\\nimport \\\nb, \\\nc \\\nas \\\nd", "From:a@1(Alias:b@4(Name:b@4) Alias:c@5(Name:d@7))")
	wantLines(t, "while a: break; \\\ncontinue", "While@1(Name:a@1 Block@1(Break@1 Continue@2))")
	wantLines(t, "def f(): return; return \\\na", "Def:f@1(Params@1 Block@1(Return@1 Return@1(Name:a@2)))")
}

func TestP5LineOfCompoundStatements(t *testing.T) {
	wantLines(t, "if \\\na \\\n: \\\nb\nelif \\\nc \\\n:\n d\nelse \\\n: \\\ne", "If@1(Name:a@2 Block@3(Expr@4(Name:b@4)) Block@5(If@5(Name:c@6 Block@7(Expr@8(Name:d@8)) Block@10(Expr@11(Name:e@11)))))")
	wantLines(t, "while \\\na:\n b\nelse:\n c", "While@1(Name:a@2 Block@2(Expr@3(Name:b@3)) Block@4(Expr@5(Name:c@5)))")
	wantLines(t, "for \\\na, \\\nb \\\nin \\\nc: \\\nd", "Loop@1(Tuple@2(Name:a@2 Name:b@3) Name:c@5 Block@5(Expr@6(Name:d@6)))")
	wantLines(t, "\ntry \\\n:\n a\nexcept \\\nb \\\nas \\\nc \\\n: d\n\nexcept \\\n: e\nfinally: f", "Try@2(Block@3(Expr@4(Name:a@4)) Handler:c@5(Name:b@6 Block@9(Expr@9(Name:d@9))) Handler@11(Absent@11 Block@12(Expr@12(Name:e@12))) Absent@2 Block@13(Expr@13(Name:f@13)))")
	wantLines(t, "\ntry: a\nfinally: b", "Try@2(Block@2(Expr@2(Name:a@2)) Absent@2 Block@3(Expr@3(Name:b@3)))")
	wantLines(t, "\nwith \\\na \\\n: b", "With@2(Name:a@3 Absent@2 Block@4(Expr@4(Name:b@4)))")
	wantLines(t, "with \\\na \\\nas \\\nb, \\\nc, \\\n(\nd) as e \\\n:\n f", "With@1(Name:a@2 Name:b@4 Block@5(With@5(Name:c@5 Absent@5 Block@6(With@6(Name:d@7 Name:e@7 Block@8(Expr@9(Name:f@9)))))))")
	wantLines(t, "\nmatch \\\na \\\n:\n case \\\n b \\\n : c\n case d \\\n  if \\\n  e:\n  f", "Match@2(Name:a@3 Case@5(PCapture:b@6 Absent@5 Block@7(Expr@7(Name:c@7))) Case@8(PCapture:d@8 Name:e@10 Block@10(Expr@11(Name:f@11))))")
}

func TestP5LineOfDefinitions(t *testing.T) {
	wantLines(t, "def \\\nf \\\n(\n)\\\n: pass", "Def:f@1(Params@4 Block@5(Pass@5))")
	wantLines(t, "def f(\n\na,\nb\n=\nc,\n*\n,\nd,\n**\ne): pass", "Def:f@1(Params@3(Param.1:a@3 Param.1:b@4(Name:c@6) Param.3:d@9 Param.4:e@10) Block@11(Pass@11))")
	wantLines(t, "def f(*\na): pass", "Def:f@1(Params@1(Param.2:a@1) Block@2(Pass@2))")
	wantLines(t, "@a\n@ \\\nb\n\ndef f(): pass", "Def:f@5(Params@5 Block@5(Pass@5) Name:a@1 Name:b@3)")
	wantLines(t, "@a\nclass A \\\n: pass", "Class:A@2(Bases@3 Block@3(Pass@3) Name:a@1)")
	wantLines(t, "class \\\nA \\\n(\nb,\nk\n=c)\\\n: pass", "Class:A@1(Bases@3(Name:b@4 Key:k@5(Name:c@6)) Block@7(Pass@7))")
	wantLines(t, "class A(\n): pass", "Class:A@1(Bases@1 Block@2(Pass@2))")
}

func TestP5LineOfPatterns(t *testing.T) {
	of := func(src string, want string) {
		t.Helper()
		wantLines(t, "match x:\n case (\n"+src+"): pass", "Match@1(Name:x@1 Case@2("+want)
	}
	behind := func(line string) string { return " Absent@2 Block@" + line + "(Pass@" + line + ")))" }
	of("a", "PCapture:a@3"+behind("3"))
	of("_", "PAny@3"+behind("3"))
	of("-\n1", "PValue@3(Unary.2@3(Int:1@4))"+behind("4"))
	of("'''\n''' as\na", "PAs:a@3(PValue@3(Str:\n@3))"+behind("5"))
	of("a\n.\nb", "PValue@3(Attr:b@3(Name:a@3))"+behind("5"))
	of("1\n|\n2", "POr@3(PValue@3(Int:1@3) PValue@5(Int:2@5))"+behind("5"))
	of("(\n1)\n|\n2", "POr@3(PValue@4(Int:1@4) PValue@6(Int:2@6))"+behind("6"))
	of("[\na,\n*\nb]", "PSeq@3(PCapture:a@4 PStar:b@5)"+behind("6"))
	of("(\na,\n)", "PSeq@3(PCapture:a@4)"+behind("5"))
	of("{\n1\n:\na,\n**\nb}", "PMap@3(PPair@4(Int:1@4 PCapture:a@6) PRest:b@7)"+behind("8"))
	of("A\n.\nB\n(\na,\nk\n=\nb)", "PClass@3(Attr:B@3(Name:A@3) PCapture:a@7 PKey:k@8(PCapture:b@10))"+behind("10"))
	of("A\n(\n)", "PClass@3(Name:A@3)"+behind("5"))
	wantLines(t, "match x:\n case \\\n (\n a), \\\n b: pass", "Match@1(Name:x@1 Case@2(PSeq@3(PCapture:a@4 PCapture:b@5) Absent@2 Block@5(Pass@5)))")
}

func TestP5Postorder(t *testing.T) {
	tree := parsed(t, "a = b + c, d\nif e: f(g)")
	var words []string
	for _, n := range tree.Nodes {
		words = append(words, nodeWord(n.Kind)+n.Text)
	}
	want := strings.Fields("Namea Nameb Namec Binary Named Tuple Assign Namee Namef Nameg Call Expr Block If File")
	if !slices.Equal(words, want) {
		t.Error(words)
	}
	for _, src := range []string{"a = b + c, d\nif e: f(g)", "@a\n@b\ndef f(c=d, *e): g", "a if b else c", "try: a\nexcept b: c\nelse: d", "", "x[1:2, ::3]"} {
		wantPostorder(t, src, parsed(t, src))
	}
	for _, src := range programs()[:3] {
		wantPostorder(t, src, parsed(t, src))
	}
}

// wantPostorder wants each node right behind those below it, and the root last.
func wantPostorder(t *testing.T, src string, tree impl.Tree) {
	t.Helper()
	var below func(at int64) int64
	// below answers the place of the first of a node and those below it.
	below = func(at int64) int64 {
		first, next := at, at
		for _, kid := range slices.Backward(tree.Nodes[at].Kids) {
			if kid != next-1 {
				t.Fatalf("%q: node %d is no Kid of %d in postorder", src, kid, at)
			}
			first = below(kid)
			next = first
		}
		return first
	}
	last := int64(len(tree.Nodes) - 1)
	if last < 0 || below(last) != 0 || tree.Nodes[last].Kind != impl.NFile {
		t.Errorf("%q: not all hang on the last one", src)
	}
}
