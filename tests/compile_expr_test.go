package tests

import (
	"fmt"
	"strings"
	"testing"

	"loop.example/g00009/impl"
)

// inExpr stands around the steps of an expression that is a statement.
const inExpr = "Stmt=1 %s Pop Const=None Return"

const compiledAtoms = `
1 => Const=1
0x_10 => Const=16
1_000 => Const=1000
1.50 => Const=1.5
'a' => Const='a'
'' => Const=''
None => Const=None
False => Const=False
True => Const=True
a => Load=a
a.b => Load=a Attr=b
a.a.b => Load=a Attr=a Attr=b
a[b] => Load=a Load=b Item
a[b:c:d] => Load=a Load=b Load=c Load=d Slice Item
a[:] => Load=a Const=None Const=None Const=None Slice Item
a[1:] => Load=a Const=1 Const=None Const=None Slice Item
a[:b] => Load=a Const=None Load=b Const=None Slice Item
a[::b] => Load=a Const=None Const=None Load=b Slice Item
a[b, 1:] => Load=a Args Load=b Add Const=1 Const=None Const=None Slice Add Finish=0 Item
a[b,] => Load=a Args Load=b Add Finish=0 Item
`

const compiledDisplays = `
() => Args Finish=0
a, => Args Load=a Add Finish=0
a, b => Args Load=a Add Load=b Add Finish=0
(a, *b, 1) => Args Load=a Add Load=b AddAll Const=1 Add Finish=0
[] => Args Finish=1
[a, *b] => Args Load=a Add Load=b AddAll Finish=1
[*a, [b]] => Args Load=a AddAll Args Load=b Add Finish=1 Add Finish=1
{a} => Args Load=a Add Finish=2
{*a, b} => Args Load=a AddAll Load=b Add Finish=2
{} => Dict Finish=3
{a: 1} => Dict Load=a Const=1 Put Finish=3
{a: 1, **b, c: d} => Dict Load=a Const=1 Put Load=b Merge Load=c Load=d Put Finish=3
{**a} => Dict Load=a Merge Finish=3
f'' => Join=0
f'a' => Const='a' Join=1
f'{a}' => Load=a Format=/0 Join=1
f'a{b}c{d!r:5}{e!s}{f:5}' => Const='a' Load=b Format=/0 Const='c' Load=d Format=5/1 Load=e Format=/2 Load=f Format=5/0 Join=6
`

const compiledCalls = `
a() => Load=a Args Call
a(b) => Load=a Args Load=b Add Call
a(b)(c) => Load=a Args Load=b Add Call Args Load=c Add Call
a(b, *c, d, e=f, **g, h=1) => Load=a Args Load=b Add Load=c AddAll Load=d Add Load=f Key=e Load=g Keys Const=1 Key=h Call
a(a=a) => Load=a Args Load=a Key=a Call
a(b=1, c=1) => Load=a Args Const=1 Key=b Const=1 Key=c Call
a(*b, *c) => Load=a Args Load=b AddAll Load=c AddAll Call
a(**b, **c) => Load=a Args Load=b Keys Load=c Keys Call
a(b for b in c) => Load=a Args Load=c Iter Gen=1 Add Call || t: For>x Store=b Load=b Yield Pop Jump>t x: Pop Const=None Return
`

const compiledOperators = `
a | b => Load=a Load=b Binary=1
a ^ b => Load=a Load=b Binary=2
a & b => Load=a Load=b Binary=3
a << b => Load=a Load=b Binary=4
a >> b => Load=a Load=b Binary=5
a + b => Load=a Load=b Binary=6
a - b => Load=a Load=b Binary=7
a * b => Load=a Load=b Binary=8
a / b => Load=a Load=b Binary=9
a // b => Load=a Load=b Binary=10
a % b => Load=a Load=b Binary=11
a ** b => Load=a Load=b Binary=12
a - b * c => Load=a Load=b Load=c Binary=8 Binary=7
a - b - c => Load=a Load=b Binary=7 Load=c Binary=7
-a ** -b => Load=a Load=b Unary=2 Binary=12 Unary=2
+a => Load=a Unary=1
-a => Load=a Unary=2
~a => Load=a Unary=3
-1 => Const=1 Unary=2
not a => Load=a Not
not not a => Load=a Not Not
(a := 1) => Const=1 Dup Store=a
(a := (b := c)) => Load=c Dup Store=b Dup Store=a
a if b else c => Load=b False>x Load=a Jump>y x: Load=c y:
a if b else c if d else e => Load=b False>x Load=a Jump>y x: Load=d False>u Load=c Jump>v u: Load=e v: y:
a and b => Load=a FalseKeep>x Load=b x:
a or b => Load=a TrueKeep>x Load=b x:
a or b or c => Load=a TrueKeep>x Load=b x: TrueKeep>y Load=c y:
a and b or c and d => Load=a FalseKeep>x Load=b x: TrueKeep>y Load=c FalseKeep>z Load=d z: y:
a < b => Load=a Load=b Compare=1
a <= b => Load=a Load=b Compare=2
a > b => Load=a Load=b Compare=3
a >= b => Load=a Load=b Compare=4
a == b => Load=a Load=b Compare=5
a != b => Load=a Load=b Compare=6
a in b => Load=a Load=b Compare=7
a not in b => Load=a Load=b Compare=8
a is b => Load=a Load=b Compare=9
a is not b => Load=a Load=b Compare=10
a < b <= c => Load=a Load=b Dup Rot Compare=1 FalseKeep>x Load=c Compare=2 Jump>y x: Swap Pop y:
a < b == c is d => Load=a Load=b Dup Rot Compare=1 FalseKeep>x Load=c Dup Rot Compare=5 FalseKeep>x Load=d Compare=9 Jump>y x: Swap Pop y:
(a < b) < c => Load=a Load=b Compare=1 Load=c Compare=1
`

const compiledParts = `
lambda: a => Args Func=1 || Load=a Return
lambda a, b=1, *c, d, e=2, **f: a => Args Const=1 Key=b Const=2 Key=e Func=1 || Load=a Return
lambda *, a=b: 1 => Args Load=b Key=a Func=1 || Const=1 Return
lambda: lambda: 1 => Args Func=1 || Args Func=2 Return || Const=1 Return
[a for a in b] => Load=b Iter Comp=1 || t: For>x Store=a Load=a Collect Jump>t x: Pop Return
{a for a in b if a if c} => Load=b Iter Comp=1 || t: For>x Store=a Load=a False>t Load=c False>t Load=a Collect Jump>t x: Pop Return
{a: 1 for a in b} => Load=b Iter Comp=1 || t: For>x Store=a Load=a Const=1 Collect Jump>t x: Pop Return
(a for a in b) => Load=b Iter Gen=1 || t: For>x Store=a Load=a Yield Pop Jump>t x: Pop Const=None Return
[1 for a.b in c] => Load=c Iter Comp=1 || t: For>x Load=a SetAttr=b Const=1 Collect Jump>t x: Pop Return
[1 for a[b] in c] => Load=c Iter Comp=1 || t: For>x Load=a Load=b SetItem Const=1 Collect Jump>t x: Pop Return
[1 for a, *b in c] => Load=c Iter Comp=1 || t: For>x Unpack=20002 Store=a Store=b Const=1 Collect Jump>t x: Pop Return
[a for a in b for c in a] => Load=b Iter Comp=1 || t: For>x Store=a Load=a Iter u: For>v Store=c Load=a Collect Jump>u v: Pop Jump>t x: Pop Return
[c for a in b if a for c in d if c for e, f in g] => Load=b Iter Comp=1 || t: For>x Store=a Load=a False>t Load=d Iter u: For>v Store=c Load=c False>u Load=g Iter p: For>q Unpack=2 Store=e Store=f Load=c Collect Jump>p q: Pop Jump>u v: Pop Jump>t x: Pop Return
{a: c for a in b if 1 for c in d} => Load=b Iter Comp=1 || t: For>x Store=a Const=1 False>t Load=d Iter u: For>v Store=c Load=a Load=c Collect Jump>u v: Pop Jump>t x: Pop Return
(a for a in b for c in d if e) => Load=b Iter Gen=1 || t: For>x Store=a Load=d Iter u: For>v Store=c Load=e False>u Load=a Yield Pop Jump>u v: Pop Jump>t x: Pop Const=None Return
[[a for a in b] for b in c] => Load=c Iter Comp=1 || t: For>x Store=b Load=b Iter Comp=2 Collect Jump>t x: Pop Return || t: For>x Store=a Load=a Collect Jump>t x: Pop Return
[a for a in [b for b in c]] => Load=c Iter Comp=2 Iter Comp=1 || t: For>x Store=a Load=a Collect Jump>t x: Pop Return || t: For>x Store=b Load=b Collect Jump>t x: Pop Return
[(d := a) for a in b] => Load=b Iter Comp=1 || t: For>x Store=a Load=a Dup Store=d Collect Jump>t x: Pop Return
[a if a else b for a in c] => Load=c Iter Comp=1 || t: For>x Store=a Load=a False>u Load=a Jump>v u: Load=b v: Collect Jump>t x: Pop Return
lambda a=(lambda: 1): [a for b in (lambda: 2)] => Args Args Func=2 Key=a Func=1 || Args Func=4 Iter Comp=3 Return || Const=1 Return || t: For>x Store=b Load=a Collect Jump>t x: Pop Return || Const=2 Return
lambda: (yield) => Args Func=1 || Const=None Yield Return
lambda: (yield a, b) => Args Func=1 || Args Load=a Add Load=b Add Finish=0 Yield Return
lambda: (yield from a) => Args Func=1 || Load=a Iter Const=None YieldFrom Return
`

func TestP11Atoms(t *testing.T) { wantRows(t, compiledAtoms, inExpr) }

func TestP11Displays(t *testing.T) { wantRows(t, compiledDisplays, inExpr) }

func TestP11Calls(t *testing.T) { wantRows(t, compiledCalls, inExpr) }

func TestP11Operators(t *testing.T) { wantRows(t, compiledOperators, inExpr) }

func TestP11PartsOfExpressions(t *testing.T) { wantRows(t, compiledParts, inExpr) }

// TestP11Instructions holds the names of the tests against the constants.
func TestP11Instructions(t *testing.T) {
	for name, op := range map[string]int64{"Const": impl.IConst, "Rot": impl.IRot, "Keys": impl.IKeys, "Slice": impl.ISlice, "TrueKeep": impl.ITrueKeep, "Gen": impl.IGen, "Unpack": impl.IUnpack, "Continue": impl.IContinue, "With": impl.IWith, "Again": impl.IAgain, "Assert": impl.IAssert, "From": impl.IFrom} {
		if instrOp(name) != op {
			t.Errorf("%s is %d, not %d", name, instrOp(name), op)
		}
	}
	if len(strings.Fields(instrNames)) != impl.IFrom {
		t.Error("not all instructions have names")
	}
}

// The examples of chapter 11, with every number as it stands there.
func TestP11Examples(t *testing.T) {
	c := codeOf(t, "while a:\n  break\n")
	want := []impl.Instr{{Op: impl.IStmt, Arg: 1}, {Op: impl.ILoop, Arg: 9}, {Op: impl.ITurn}, {Op: impl.ILoad}, {Op: impl.IFalse, Arg: 8}, {Op: impl.IStmt, Arg: 2}, {Op: impl.IBreak}, {Op: impl.IJump, Arg: 2}, {Op: impl.IBlockEnd}, {Op: impl.IConst}, {Op: impl.IReturn}}
	names := []impl.NameHow{{Name: "a", How: impl.HowGlobal}}
	none := []impl.Const{{}}
	all := impl.Code{Parts: []impl.Part{{Name: "<module>", Line: 1, Names: names, Consts: none, Words: []string{"a"}, Instrs: want}}}
	if !sameCode(c, all) {
		t.Error(codeTold(c))
	}
	c = codeOf(t, "[i for i in a if i]\n")
	want = []impl.Instr{{Op: impl.IStmt, Arg: 1}, {Op: impl.ILoad}, {Op: impl.IIter}, {Op: impl.IComp, Arg: 1}, {Op: impl.IPop}, {Op: impl.IConst}, {Op: impl.IReturn}}
	part := []impl.Instr{{Op: impl.IFor, Arg: 7}, {Op: impl.IStore}, {Op: impl.ILoad}, {Op: impl.IFalse}, {Op: impl.ILoad}, {Op: impl.ICollect}, {Op: impl.IJump}, {Op: impl.IPop}, {Op: impl.IReturn}}
	all = impl.Code{Parts: []impl.Part{
		{Name: "<module>", Line: 1, Names: names, Consts: none, Words: []string{"a"}, Instrs: want},
		{Name: "<comp>", Kind: impl.ScComp, Form: impl.FormList, Line: 1, Names: []impl.NameHow{{Name: "i", How: impl.HowLocal}}, Words: []string{"i"}, Instrs: part},
	}}
	if !sameCode(c, all) {
		t.Error(codeTold(c))
	}
}

// Each constant and each word stands once, where it is needed at first; a float, an
// integer and a text that are written alike are three.
func TestP11EachOnce(t *testing.T) {
	c := codeOf(t, "a = 1, '1', 1.0, 1, '1', True, None, '', 'None', 'a', 1.0\na.a.b\nb = a.c\n")
	p := c.Parts[0]
	want := "[{3 1} {5 1} {4 1.0} {2 } {0 } {5 } {5 None} {5 a}]"
	if got := fmt.Sprint(p.Consts); got != want {
		t.Error(got)
	}
	if got := fmt.Sprint(p.Words); got != "[a b c]" {
		t.Error(got)
	}
	// What is needed behind an expression comes behind what that needs.
	wantWords := map[string]string{
		"a = b":                                 "[b a]",
		"a.b = c.d":                             "[c d a b]",
		"a.b += c":                              "[a b c]",
		"a(b=c)":                                "[a c b]",
		"def f(x=a): y":                         "[a x f]",
		"class A(b, c=d): y":                    "[b d c A]",
		"@a\ndef f(x=b): y":                     "[a b x f]",
		"import a as b":                         "[a b]",
		"from a import b as c, d":               "[a b c d]",
		"try: a\nexcept b as c: d":              "[a b c d]",
		"f'{a:x}{b:a}'":                         "[a x b]",
		"for a in b: c":                         "[b a c]",
		"with a as b: c":                        "[a b c]",
		"(a := b)":                              "[b a]",
		"[a for b in c]":                        "[c]",
		"match a:\n case b.c: d\n case K(e): f": "[a d f]",
		"del a.b, c":                            "[a b c]",
	}
	for src, words := range wantWords {
		if got := fmt.Sprint(codeOf(t, src).Parts[0].Words); got != words {
			t.Errorf("%s: %s, not %s", src, got, words)
		}
	}
}
