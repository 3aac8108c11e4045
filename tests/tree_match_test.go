package tests

import (
	"strings"
	"testing"

	"loop.example/g00009/impl"
)

// wantPattern wants the tree of a pattern.
func wantPattern(t *testing.T, src string, want string) {
	t.Helper()
	wantTree(t, "match x:\n case "+src+": pass", "Match(Name:x Case("+want+" Absent Block(Pass)))")
	wantTree(t, "match x:\n case "+src+" if y: pass", "Match(Name:x Case("+want+" Name:y Block(Pass)))")
}

// wantNoPattern wants a FaultForm for each.
func wantNoPattern(t *testing.T, list ...string) {
	t.Helper()
	for _, src := range list {
		wantNoTree(t, "match x:\n case "+src+": pass", impl.FaultForm, 2)
		wantNoTree(t, "match x:\n case "+src+" if y: pass", impl.FaultForm, 2)
	}
}

func TestP5Matches(t *testing.T) {
	wantTree(t, "match a:\n case b: c", "Match(Name:a Case(PCapture:b Absent Block(Expr(Name:c))))")
	wantTree(t, "match a:\n case b if c: d", "Match(Name:a Case(PCapture:b Name:c Block(Expr(Name:d))))")
	wantTree(t, "match a, *b:\n case c:\n  d\n  e\n case _: f", "Match(Tuple(Name:a Star(Name:b)) Case(PCapture:c Absent Block(Expr(Name:d) Expr(Name:e))) Case(PAny Absent Block(Expr(Name:f))))")
	wantTree(t, "match a,:\n case b: c", "Match(Tuple(Name:a) Case(PCapture:b Absent Block(Expr(Name:c))))")
	wantTree(t, "match a if b else c:\n case d if e if f else g: h", "Match(Cond(Name:b Name:a Name:c) Case(PCapture:d Cond(Name:f Name:e Name:g) Block(Expr(Name:h))))")
	wantTree(t, "match lambda: a:\n case b if lambda: c: d", "Match(Lambda(Params Name:a) Case(PCapture:b Lambda(Params Name:c) Block(Expr(Name:d))))")
	wantTree(t, "match a:\n case b:\n  match c:\n   case d: e\nf", "Match(Name:a Case(PCapture:b Absent Block(Match(Name:c Case(PCapture:d Absent Block(Expr(Name:e))))))) Expr(Name:f)")
	wantNoForm(t, "match a", "match: b", "match a: case b: c", "match a: b", "match a:", "match = a", "match(a)", "match *a:\n case b: c", "match a b:\n case c: d", "case a: b", "match a = b:\n case c: d", "match", "a = match", "match yield:\n case a: b")
	wantNoTree(t, "match a:\ncase b: c", impl.FaultForm, 2)
	wantNoTree(t, "match a:\n b", impl.FaultForm, 2)
	wantNoTree(t, "match a:\n pass\n case b: c", impl.FaultForm, 2)
	wantNoTree(t, "match a:\n case b: c\n d", impl.FaultForm, 3)
	wantNoTree(t, "match a:\n case b: c\n else: d", impl.FaultForm, 3)
	wantNoTree(t, "match a:\n case b: c\nelse: d", impl.FaultForm, 3)
	wantNoTree(t, "match a:\n case b: c\n  case d: e", impl.FaultForm, 3)
	wantNoTree(t, "match a:\n case b c", impl.FaultForm, 2)
	wantNoTree(t, "match a:\n case b if: c", impl.FaultForm, 2)
	wantNoTree(t, "match a:\n case: b", impl.FaultForm, 2)
	wantNoTree(t, "match a:\n case b if c, d: e", impl.FaultForm, 2)
	wantNoTree(t, "match a:\n case if b: c", impl.FaultForm, 2)
	wantNoTree(t, "match a:\n case b: if c: d", impl.FaultForm, 2)
}

func TestP5ValuePatterns(t *testing.T) {
	wantPattern(t, "1", "PValue(Int:1)")
	wantPattern(t, "-1", "PValue(Unary.2(Int:1))")
	wantPattern(t, "- 1.5", "PValue(Unary.2(Float:1.5))")
	wantPattern(t, "1.5", "PValue(Float:1.5)")
	wantPattern(t, "'a'", "PValue(Str:a)")
	wantPattern(t, "r'\\d'", "PValue(Str:\\d)")
	wantPattern(t, "None", "PValue(Const)")
	wantPattern(t, "False", "PValue(Const.1)")
	wantPattern(t, "True", "PValue(Const.2)")
	wantPattern(t, "a.b", "PValue(Attr:b(Name:a))")
	wantPattern(t, "a.b.c", "PValue(Attr:c(Attr:b(Name:a)))")
	wantPattern(t, "_._", "PValue(Attr:_(Name:_))")
	wantPattern(t, "a", "PCapture:a")
	wantPattern(t, "_", "PAny")
	wantPattern(t, "__", "PCapture:__")
	wantPattern(t, "(a)", "PCapture:a")
	wantPattern(t, "((1))", "PValue(Int:1)")
	wantNoPattern(t, "+1", "--1", "-a", "-'a'", "-(1)", "~1", "1 + 2", "f'a'", "a()b", "a[b]", "a.b[c]", "not a", "lambda: a", "a.1", ".a", "a.", "a + b", "1 2", "'a' 'b'", "if", "a if b else c", "{a}", "a == b", "a := b", "yield", "-None", "None.a", "1 .a", "'a'.b", "a.None", "-", "a b", "a.b c", "@a")
}

func TestP5SequencePatterns(t *testing.T) {
	wantPattern(t, "[]", "PSeq")
	wantPattern(t, "[a]", "PSeq(PCapture:a)")
	wantPattern(t, "[a,]", "PSeq(PCapture:a)")
	wantPattern(t, "(a,)", "PSeq(PCapture:a)")
	wantPattern(t, "a,", "PSeq(PCapture:a)")
	wantPattern(t, "a, b", "PSeq(PCapture:a PCapture:b)")
	wantPattern(t, "a, b,", "PSeq(PCapture:a PCapture:b)")
	wantPattern(t, "(a, b)", "PSeq(PCapture:a PCapture:b)")
	wantPattern(t, "(a, b,)", "PSeq(PCapture:a PCapture:b)")
	wantPattern(t, "[a, b,]", "PSeq(PCapture:a PCapture:b)")
	wantPattern(t, "[*a]", "PSeq(PStar:a)")
	wantPattern(t, "[*_]", "PSeq(PStar)")
	wantPattern(t, "*a,", "PSeq(PStar:a)")
	wantPattern(t, "(*a,)", "PSeq(PStar:a)")
	wantPattern(t, "*_, a", "PSeq(PStar PCapture:a)")
	wantPattern(t, "a, *b, c", "PSeq(PCapture:a PStar:b PCapture:c)")
	wantPattern(t, "(a, *b)", "PSeq(PCapture:a PStar:b)")
	wantPattern(t, "[[*a], (*b, c), d]", "PSeq(PSeq(PStar:a) PSeq(PStar:b PCapture:c) PCapture:d)")
	wantPattern(t, "[*a, [*b]], *c", "PSeq(PSeq(PStar:a PSeq(PStar:b)) PStar:c)")
	wantPattern(t, "1 | 2, a as b", "PSeq(POr(PValue(Int:1) PValue(Int:2)) PAs:b(PCapture:a))")
	wantPattern(t, "_, _, *_", "PSeq(PAny PAny PStar)")
	wantNoPattern(t, "()", "(,)", "[,]", ",", "a,,", ", a", "*a", "(*a)", "*(a)", "*1,", "*a.b,", "**a,", "[**a]", "* *a,", "[a b]", "*a as b,", "*a | b,", "[*]", "*a b", "(a b)", "[*_ as a]", "*None,")
}

func TestP5TwoStars(t *testing.T) {
	wantNoPattern(t, "[*a, *b]", "(*a, *b)", "*a, *b", "*_, *_", "[*a, b, *_]", "[*a, *b, *c]", "[[*a, *b], c]", "{1: [*a, *b]}", "A([*a, *b])", "[*a, *b] | c", "*a, b, *c,", "A(k=(*a, *b))")
	wantPattern(t, "[[*a], *b]", "PSeq(PSeq(PStar:a) PStar:b)")
	// Found at the token behind the sequence, its bracket included.
	wantNoTree(t, "match x:\n case (a, [*b,\n*c\n]\n,\n1 2): pass", impl.FaultForm, 5)
	wantNoTree(t, "match x:\n case (a, [*b,\n*c\n1\n]\n): pass", impl.FaultForm, 4)
	wantNoTree(t, "match x:\n case *a, *b \\\n if y: pass", impl.FaultForm, 3)
	wantNoTree(t, "match x:\n case *a, *b, \\\n : pass", impl.FaultForm, 3)
}

func TestP5MapPatterns(t *testing.T) {
	wantPattern(t, "{}", "PMap")
	wantPattern(t, "{1: a}", "PMap(PPair(Int:1 PCapture:a))")
	wantPattern(t, "{1: a,}", "PMap(PPair(Int:1 PCapture:a))")
	wantPattern(t, "{'a': _, -1: 2, None: b.c, True: [], d.e: {}}", "PMap(PPair(Str:a PAny) PPair(Unary.2(Int:1) PValue(Int:2)) PPair(Const PValue(Attr:c(Name:b))) PPair(Const.2 PSeq) PPair(Attr:e(Name:d) PMap))")
	wantPattern(t, "{**a}", "PMap(PRest:a)")
	wantPattern(t, "{1: a, **b}", "PMap(PPair(Int:1 PCapture:a) PRest:b)")
	wantPattern(t, "{1: 2 | b.c as d, 1: e}", "PMap(PPair(Int:1 PAs:d(POr(PValue(Int:2) PValue(Attr:c(Name:b))))) PPair(Int:1 PCapture:e))")
	wantPattern(t, "{1: (a, b), 2: [*c]}", "PMap(PPair(Int:1 PSeq(PCapture:a PCapture:b)) PPair(Int:2 PSeq(PStar:c)))")
	wantNoPattern(t, "{a: b}", "{a}", "{1}", "{1: }", "{: a}", "{**a,}", "{**a, 1: b}", "{**a, **b}", "{1: a, **b,}", "{1: *a}", "{1: a, b}", "{*a}", "{**1}", "{**}", "{**a.b}", "{,}", "{1: a 2: b}", "{1: a,,}", "{f'a': b}", "{(1): a}", "{[]: a}", "{-a: b}", "{a(): b}", "{1: a, b: c}", "{**a: b}", "{_: a}", "{1: 2: 3}", "{1: a, b}")
}

func TestP5ClassPatterns(t *testing.T) {
	wantPattern(t, "A()", "PClass(Name:A)")
	wantPattern(t, "a.b.C()", "PClass(Attr:C(Attr:b(Name:a)))")
	wantPattern(t, "_()", "PClass(Name:_)")
	wantPattern(t, "A(b)", "PClass(Name:A PCapture:b)")
	wantPattern(t, "A(b,)", "PClass(Name:A PCapture:b)")
	wantPattern(t, "A(1, b.c, _)", "PClass(Name:A PValue(Int:1) PValue(Attr:c(Name:b)) PAny)")
	wantPattern(t, "A(k=b)", "PClass(Name:A PKey:k(PCapture:b))")
	wantPattern(t, "A(k=b,)", "PClass(Name:A PKey:k(PCapture:b))")
	wantPattern(t, "A(a, b, k=c, l=1 | 2,)", "PClass(Name:A PCapture:a PCapture:b PKey:k(PCapture:c) PKey:l(POr(PValue(Int:1) PValue(Int:2))))")
	wantPattern(t, "A(B(c), k=D(e), l=[f, *g], m={1: h})", "PClass(Name:A PClass(Name:B PCapture:c) PKey:k(PClass(Name:D PCapture:e)) PKey:l(PSeq(PCapture:f PStar:g)) PKey:m(PMap(PPair(Int:1 PCapture:h))))")
	wantPattern(t, "A(k=a as b)", "PClass(Name:A PKey:k(PAs:b(PCapture:a)))")
	wantPattern(t, "A((a, b))", "PClass(Name:A PSeq(PCapture:a PCapture:b))")
	wantPattern(t, "A(k=k)", "PClass(Name:A PKey:k(PCapture:k))")
	wantPattern(t, "A(B(k=a), k=b)", "PClass(Name:A PClass(Name:B PKey:k(PCapture:a)) PKey:k(PCapture:b))")
	wantNoPattern(t, "A(*a)", "A(**a)", "A(,)", "A(a,,)", "A(a b)", "A(k=)", "A(=a)", "A(k=a, b)", "A(k=a, 1)", "A(k=a, b.c)", "A(k=a, *b)", "A(k=*b)", "A(a.b=c)", "A(1=a)", "A()()", "A().b", "A(a for a in b)", "1()", "'a'()", "None()", "A(a=b=c)", "A(a)(b)", "A(k=a k=b)", "A[b]", "(A)(b)", "A(k=a, (l)=b)", "A(k=a, B(c))")
}

func TestP5OrAndAsPatterns(t *testing.T) {
	wantPattern(t, "1 | 2", "POr(PValue(Int:1) PValue(Int:2))")
	wantPattern(t, "1 | 2 | a.b | None", "POr(PValue(Int:1) PValue(Int:2) PValue(Attr:b(Name:a)) PValue(Const))")
	wantPattern(t, "(1 | 2) | 3", "POr(POr(PValue(Int:1) PValue(Int:2)) PValue(Int:3))")
	wantPattern(t, "1 | (2 | 3)", "POr(PValue(Int:1) POr(PValue(Int:2) PValue(Int:3)))")
	wantPattern(t, "1 as a", "PAs:a(PValue(Int:1))")
	wantPattern(t, "1 | 2 as a", "PAs:a(POr(PValue(Int:1) PValue(Int:2)))")
	wantPattern(t, "(1 as a) | (2 as a)", "POr(PAs:a(PValue(Int:1)) PAs:a(PValue(Int:2)))")
	wantPattern(t, "(1 as a) as b", "PAs:b(PAs:a(PValue(Int:1)))")
	wantPattern(t, "a as b", "PAs:b(PCapture:a)")
	wantPattern(t, "_ as a", "PAs:a(PAny)")
	wantPattern(t, "1 as _", "PAs:_(PValue(Int:1))")
	wantPattern(t, "1 | _", "POr(PValue(Int:1) PAny)")
	wantPattern(t, "1 as a, 2 as b", "PSeq(PAs:a(PValue(Int:1)) PAs:b(PValue(Int:2)))")
	wantPattern(t, "[1 | 2 as a]", "PSeq(PAs:a(POr(PValue(Int:1) PValue(Int:2))))")
	wantNoPattern(t, "1 |", "| 1", "1 | | 2", "1 as", "as a", "1 as a as b", "1 as 2", "1 as a.b", "1 as (a)", "1 as a | 2", "1 or 2", "1 | *a", "1 as *a", "1 & 2", "1 | 2 as a | 3", "(1 as)", "1 as None", "1 || 2")
}

func TestP5NamesInPatterns(t *testing.T) {
	wantNoPattern(t, "a, a", "[a, a]", "a, [a]", "a, *a", "[*a, a]", "a as a", "(a as b) as a", "(1 as a) as a", "1 as a, 2 as a", "{1: a, 2: a}", "{1: a, **a}", "A(a, a)", "A(a, k=a)", "A(k=a, l=a)", "a, (1 | 2 as a)", "[[a], [[a]]]", "a, {1: [b, A(k=a)]}", "a, b, c, b", "1 as _, 2 as _", "{**_}, 1 as _", "[a, b] | [a, a]", "(a, [1 | 2] as a)", "a, ([b] | [b]), b")
	wantNoPattern(t, "[a] | [b]", "[a] | 1", "1 | [a]", "1 | 2 | a", "[a, b] | [a]", "[a] | [a, b]", "[a, b] | [b, c]", "{1: a} | {**b}", "A(a) | B(b)", "[*a] | [*_]", "1 as a | 2", "(1 as a) | 2", "(1 as a) | (2 as b)", "[a] | [a] | [b]", "[[a] | [b]]", "{1: 2 | a}", "A(1 | a)", "[a] | ([a] | [b])", "([a] | 1) | [a]")
	wantPattern(t, "[a] | (a, 1)", "POr(PSeq(PCapture:a) PSeq(PCapture:a PValue(Int:1)))")
	wantPattern(t, "[a, b] | {1: b, 2: a} | A(a, k=b)", "POr(PSeq(PCapture:a PCapture:b) PMap(PPair(Int:1 PCapture:b) PPair(Int:2 PCapture:a)) PClass(Name:A PCapture:a PKey:k(PCapture:b)))")
	wantPattern(t, "[a, *_] | [*a, _]", "POr(PSeq(PCapture:a PStar) PSeq(PStar:a PAny))")
	wantPattern(t, "{**a} | (1 as a)", "POr(PMap(PRest:a) PAs:a(PValue(Int:1)))")
	wantPattern(t, "[_, _, *_]", "PSeq(PAny PAny PStar)")
	wantPattern(t, "[a.b, a.b, a]", "PSeq(PValue(Attr:b(Name:a)) PValue(Attr:b(Name:a)) PCapture:a)")
	wantPattern(t, "A(A, k=k, l=a)", "PClass(Name:A PCapture:A PKey:k(PCapture:k) PKey:l(PCapture:a))")
	wantPattern(t, "([a] | [a]), ([b] | [b])", "PSeq(POr(PSeq(PCapture:a) PSeq(PCapture:a)) POr(PSeq(PCapture:b) PSeq(PCapture:b)))")
	// Each case binds its own.
	wantTree(t, "match x:\n case a: pass\n case a: pass", "Match(Name:x Case(PCapture:a Absent Block(Pass)) Case(PCapture:a Absent Block(Pass)))")
	// Found at the token behind the whole pattern.
	wantNoTree(t, "match x:\n case (a,\na,\nb\n): pass", impl.FaultForm, 5)
	wantNoTree(t, "match x:\n case (a,\na,\n1 2\n): pass", impl.FaultForm, 4)
	wantNoTree(t, "match x:\n case a, a \\\n if +: pass", impl.FaultForm, 3)
	wantNoTree(t, "match x:\n case [a] | [b] \\\n c: pass", impl.FaultForm, 3)
}

func TestP5SidesThatAlwaysMatch(t *testing.T) {
	wantNoPattern(t, "a | a", "_ | 1", "_ | _", "a | (1 as a)", "1 | _ | 2", "(_ as a) | (1 as a)", "((_ as a) as b) | ([a, b])", "[_ | 1]", "{1: _ | 2}", "A(_ | 1)", "A(k=_ | 1)", "(_) | 1", "1 as a, _ | 2", "(a as b) | [a, b]", "(_ | 1) as a", "1 | (_ | 2)")
	wantPattern(t, "1 | _", "POr(PValue(Int:1) PAny)")
	wantPattern(t, "[a] | a", "POr(PSeq(PCapture:a) PCapture:a)")
	wantPattern(t, "[*_] | 1", "POr(PSeq(PStar) PValue(Int:1))")
	wantPattern(t, "{} | A() | [_] | _", "POr(PMap PClass(Name:A) PSeq(PAny) PAny)")
	wantPattern(t, "(1 | _) | 2", "POr(POr(PValue(Int:1) PAny) PValue(Int:2))")
	wantPattern(t, "(1 as a) | (_ as a)", "POr(PAs:a(PValue(Int:1)) PAs:a(PAny))")
	wantNoTree(t, "match x:\n case (_\n| 1\n) \\\n: pass", impl.FaultForm, 5)
}

func TestP5KeysInClassPatterns(t *testing.T) {
	wantNoPattern(t, "A(k=1, k=2)", "A(k=1, l=2, k=3)", "A(b, k=1, k=_)", "[A(k=1, k=2)]", "A(k=1, k)", "B(l=A(k=1, k=2))")
	wantPattern(t, "A(k=1), A(k=2)", "PSeq(PClass(Name:A PKey:k(PValue(Int:1))) PClass(Name:A PKey:k(PValue(Int:2))))")
	wantPattern(t, "A(k=A(k=A(k=1)))", "PClass(Name:A PKey:k(PClass(Name:A PKey:k(PClass(Name:A PKey:k(PValue(Int:1)))))))")
	// Found at the name.
	wantNoTree(t, "match x:\n case A(k=1,\nk\n=2): pass", impl.FaultForm, 3)
	wantNoTree(t, "match x:\n case A(k=1,\nk\n): pass", impl.FaultForm, 3)
	wantNoTree(t, "match x:\n case A(k=1,\nl\n): pass", impl.FaultForm, 4)
}

func TestP5PatternsInPatterns(t *testing.T) {
	simple := []string{"1", "-1", "'a'", "None", "a.b", "_", "[]", "[_, *_]", "{}", "{1: _, None: 2}", "A()", "A(_, k=1)"}
	for _, inner := range simple {
		for _, around := range []string{"[%]", "[%, 1]", "%, 1", "(%,)", "{1: %}", "{1: 2, 'a': %,}", "A(%)", "A(1, %)", "A(k=%)", "% as z", "1 | %", "(1 | %) | 2", "[(% as z), *y]", "((%))", "[[[%]]]"} {
			src := "match x:\n case " + strings.ReplaceAll(around, "%", inner) + ": pass"
			wantShownBack(t, src, parsed(t, src))
		}
	}
}
