package tests

import (
	"strconv"
	"strings"
	"testing"

	"loop.example/g00009/impl"
)

func TestP5KindsAreCounted(t *testing.T) {
	kinds := []int64{
		impl.NFile, impl.NBlock, impl.NAbsent, impl.NInt, impl.NFloat, impl.NStr, impl.NFStr, impl.NField, impl.NName, impl.NConst, impl.NAttr, impl.NIndex, impl.NSlice, impl.NCall, impl.NStar, impl.NKey, impl.NKStar,
		impl.NTuple, impl.NList, impl.NSet, impl.NDict, impl.NPair, impl.NListComp, impl.NSetComp, impl.NDictComp, impl.NGenExp, impl.NFor, impl.NLambda, impl.NParams, impl.NParam, impl.NCond, impl.NBool, impl.NNot, impl.NCompare, impl.NCmp,
		impl.NBinary, impl.NUnary, impl.NWalrus, impl.NYield, impl.NYieldFrom, impl.NExpr, impl.NAssign, impl.NAug, impl.NDel, impl.NPass, impl.NBreak, impl.NContinue, impl.NReturn, impl.NRaise, impl.NAssert, impl.NGlobal, impl.NNonlocal,
		impl.NImport, impl.NFrom, impl.NAlias, impl.NIf, impl.NWhile, impl.NLoop, impl.NTry, impl.NHandler, impl.NWith, impl.NDef, impl.NClass, impl.NBases, impl.NMatch, impl.NCase,
		impl.PValue, impl.PCapture, impl.PAny, impl.PSeq, impl.PStar, impl.PMap, impl.PPair, impl.PRest, impl.PClass, impl.PKey, impl.POr, impl.PAs,
	}
	if len(kinds) != len(nodeWords()) {
		t.Error("not all kinds:", len(kinds), len(nodeWords()))
	}
	for i, kind := range kinds {
		if kind != int64(i+1) {
			t.Error("kinds are not counted as the skeleton has them:", nodeWord(int64(i+1)), kind)
		}
	}
	if impl.FaultForm != 8 || impl.FaultTarget != 9 || impl.FaultDeep != 10 || impl.MaxNodes != 6000 || impl.MaxDeep != 100 || impl.MaxParams != 60 {
		t.Error("faults or limits are not the document's")
	}
}

func TestP5Atoms(t *testing.T) {
	wantExpr(t, "a", "Name:a")
	wantExpr(t, "_", "Name:_")
	wantExpr(t, "0", "Int:0")
	wantExpr(t, "0x_ff", "Int:255")
	wantExpr(t, "10.5e1", "Float:105.0")
	wantExpr(t, "'a\\n'", "Str:a\n")
	wantExpr(t, "''", "Str")
	wantExpr(t, "r'\\a'", "Str:\\a")
	wantExpr(t, "None", "Const")
	wantExpr(t, "False", "Const.1")
	wantExpr(t, "True", "Const.2")
	wantExpr(t, "(a)", "Name:a")
	wantExpr(t, "(((a)))", "Name:a")
	wantNoForm(t, "'a' 'b'", "a b", "1 2", "None None", "a 'b'", "f'a' 'b'", "not", "+", "a +", "=", ".a", "a.", "a..b", "a.1", "a.None", "a.if", "...", "@a", ":", ";", "a;;b", "if", "case", "match", "else")
}

func TestP5Levels(t *testing.T) {
	levels := [][]string{{"or"}, {"and"}, {"=="}, {"|"}, {"^"}, {"&"}, {"<<", ">>"}, {"+", "-"}, {"*", "/", "//", "%"}}
	words := map[string]string{
		"or": "Bool.2", "and": "Bool.1", "|": "Binary.1", "^": "Binary.2", "&": "Binary.3", "<<": "Binary.4", ">>": "Binary.5", "+": "Binary.6", "-": "Binary.7", "*": "Binary.8", "/": "Binary.9", "//": "Binary.10", "%": "Binary.11",
	}
	node := func(op string, a string, b string) string {
		if op == "==" {
			return "Compare(" + a + " Cmp.5(" + b + "))"
		}
		return words[op] + "(" + a + " " + b + ")"
	}
	for i, loose := range levels {
		for j, tight := range levels {
			for _, x := range loose {
				for _, y := range tight {
					left := node(y, node(x, "Name:a", "Name:b"), "Name:c")
					right := node(x, "Name:a", node(y, "Name:b", "Name:c"))
					want := left
					if i < j {
						want = right
					}
					if i != j || x != "==" {
						wantExpr(t, "a "+x+" b "+y+" c", want)
					}
					wantExpr(t, "(a "+x+" b) "+y+" c", left)
					wantExpr(t, "a "+x+" (b "+y+" c)", right)
				}
			}
		}
	}
}

func TestP5Comparisons(t *testing.T) {
	signs := []string{"<", "<=", ">", ">=", "==", "!=", "in", "not in", "is", "is not"}
	for i, x := range signs {
		wantExpr(t, "a "+x+" b", "Compare(Name:a Cmp."+strconv.Itoa(i+1)+"(Name:b))")
		for j, y := range signs {
			wantExpr(t, "a "+x+" b "+y+" c", "Compare(Name:a Cmp."+strconv.Itoa(i+1)+"(Name:b) Cmp."+strconv.Itoa(j+1)+"(Name:c))")
			wantExpr(t, "(a "+x+" b) "+y+" c", "Compare(Compare(Name:a Cmp."+strconv.Itoa(i+1)+"(Name:b)) Cmp."+strconv.Itoa(j+1)+"(Name:c))")
			wantExpr(t, "a "+x+" (b "+y+" c)", "Compare(Name:a Cmp."+strconv.Itoa(i+1)+"(Compare(Name:b Cmp."+strconv.Itoa(j+1)+"(Name:c))))")
		}
	}
	wantExpr(t, "a < b == c < d", "Compare(Name:a Cmp.1(Name:b) Cmp.5(Name:c) Cmp.1(Name:d))")
	wantExpr(t, "not a in b", "Not(Compare(Name:a Cmp.7(Name:b)))")
	wantExpr(t, "not a not in b", "Not(Compare(Name:a Cmp.8(Name:b)))")
	wantExpr(t, "not not a", "Not(Not(Name:a))")
	wantExpr(t, "not a and not b or not c", "Bool.2(Bool.1(Not(Name:a) Not(Name:b)) Not(Name:c))")
	wantExpr(t, "not a is not b", "Not(Compare(Name:a Cmp.10(Name:b)))")
	wantExpr(t, "(not a) in b", "Compare(Not(Name:a) Cmp.7(Name:b))")
	wantExpr(t, "a is (not b)", "Compare(Name:a Cmp.9(Not(Name:b)))")
	wantExpr(t, "a | b < c & d", "Compare(Binary.1(Name:a Name:b) Cmp.1(Binary.3(Name:c Name:d)))")
	wantNoForm(t, "a not b", "a not", "a not not in b", "a in not b", "a == not b", "a is not not b", "a is is b", "a is in b", "a is not in b", "a not is b", "a <> b", "a < > b", "a === b", "a + not b", "- not a", "a ** not b", "in a", "is a", "not in a")
}

func TestP5UnarySigns(t *testing.T) {
	for i, sign := range []string{"+", "-", "~"} {
		op := "Unary." + strconv.Itoa(i+1)
		wantExpr(t, sign+"a", op+"(Name:a)")
		wantExpr(t, sign+" 1", op+"(Int:1)")
		wantExpr(t, sign+sign+"a", op+"("+op+"(Name:a))")
		wantExpr(t, sign+"a ** b", op+"(Binary.12(Name:a Name:b))")
		wantExpr(t, "("+sign+"a) ** b", "Binary.12("+op+"(Name:a) Name:b)")
		wantExpr(t, "a ** "+sign+"b", "Binary.12(Name:a "+op+"(Name:b))")
		wantExpr(t, "a ** "+sign+"b ** c", "Binary.12(Name:a "+op+"(Binary.12(Name:b Name:c)))")
		wantExpr(t, sign+"a * "+sign+"b", "Binary.8("+op+"(Name:a) "+op+"(Name:b))")
		wantExpr(t, sign+"a.b", op+"(Attr:b(Name:a))")
		wantExpr(t, sign+"a[b]", op+"(Index(Name:a Name:b))")
		wantExpr(t, sign+"a(b)", op+"(Call(Name:a Name:b))")
		wantExpr(t, "not "+sign+"a", "Not("+op+"(Name:a))")
	}
	wantExpr(t, "a ** b ** c", "Binary.12(Name:a Binary.12(Name:b Name:c))")
	wantExpr(t, "(a ** b) ** c", "Binary.12(Binary.12(Name:a Name:b) Name:c)")
	wantExpr(t, "a * b ** c * d", "Binary.8(Binary.8(Name:a Binary.12(Name:b Name:c)) Name:d)")
	wantExpr(t, "a.b ** c.d", "Binary.12(Attr:b(Name:a) Attr:d(Name:c))")
	wantExpr(t, "a - -b", "Binary.7(Name:a Unary.2(Name:b))")
	wantNoForm(t, "a ** * b", "** a", "a ~ b", "~", "a **", "a // / b", "a @ b", "@ a @ b")
}

func TestP5Conditions(t *testing.T) {
	wantExpr(t, "a if b else c", "Cond(Name:b Name:a Name:c)")
	wantExpr(t, "a if b else c if d else e", "Cond(Name:b Name:a Cond(Name:d Name:c Name:e))")
	wantExpr(t, "(a if b else c) if d else e", "Cond(Name:d Cond(Name:b Name:a Name:c) Name:e)")
	wantExpr(t, "a if (b if c else d) else e", "Cond(Cond(Name:c Name:b Name:d) Name:a Name:e)")
	wantExpr(t, "a or b if c or d else e or f", "Cond(Bool.2(Name:c Name:d) Bool.2(Name:a Name:b) Bool.2(Name:e Name:f))")
	wantExpr(t, "not a if not b else not c", "Cond(Not(Name:b) Not(Name:a) Not(Name:c))")
	wantExpr(t, "a if b else lambda: c", "Cond(Name:b Name:a Lambda(Params Name:c))")
	wantExpr(t, "lambda: a if b else c", "Lambda(Params Cond(Name:b Name:a Name:c))")
	wantExpr(t, "(lambda: a) if b else c", "Cond(Name:b Lambda(Params Name:a) Name:c)")
	wantExpr(t, "a, b if c else d, e", "Tuple(Name:a Cond(Name:c Name:b Name:d) Name:e)")
	wantNoForm(t, "a if b", "a if else c", "a else b", "if b else c", "a if b else", "a if b if c else d else e", "a if lambda: b else c", "a or lambda: b", "not lambda: a", "- lambda: a", "a + lambda: b", "a if b elif c", "a if b, c else d")
}

func TestP5Lambdas(t *testing.T) {
	wantExpr(t, "lambda: 0", "Lambda(Params Int:0)")
	wantExpr(t, "lambda a: a", "Lambda(Params(Param.1:a) Name:a)")
	wantExpr(t, "lambda: lambda: a", "Lambda(Params Lambda(Params Name:a))")
	wantExpr(t, "lambda a=lambda: b: c", "Lambda(Params(Param.1:a(Lambda(Params Name:b))) Name:c)")
	wantExpr(t, "lambda a=b if c else d, *e, f=g, **h: i", "Lambda(Params(Param.1:a(Cond(Name:c Name:b Name:d)) Param.2:e Param.3:f(Name:g) Param.4:h) Name:i)")
	wantExpr(t, "lambda *, a: a", "Lambda(Params(Param.3:a) Name:a)")
	wantExpr(t, "lambda: a, b", "Tuple(Lambda(Params Name:a) Name:b)")
	wantExpr(t, "lambda: (a, b)", "Lambda(Params Tuple(Name:a Name:b))")
	wantExpr(t, "lambda: (yield)", "Lambda(Params Yield)")
	wantExpr(t, "lambda: (yield from a)", "Lambda(Params YieldFrom(Name:a))")
	wantNoForm(t, "lambda a, : a", "lambda **a, : a", "lambda *a, : a", "lambda *, a, : a", "lambda a", "lambda", "lambda (a): a", "lambda a: ", "lambda: yield", "lambda: *a", "lambda: pass", "lambda a a: a", "lambda , : a", "lambda a=: b", "lambda a=(yield): a", "lambda: return")
}

func TestP5Walruses(t *testing.T) {
	wantExpr(t, "(a := b)", "Walrus:a(Name:b)")
	wantExpr(t, "((a := b))", "Walrus:a(Name:b)")
	wantExpr(t, "(a := b if c else d)", "Walrus:a(Cond(Name:c Name:b Name:d))")
	wantExpr(t, "(a := lambda: b)", "Walrus:a(Lambda(Params Name:b))")
	wantExpr(t, "(a := (b := c))", "Walrus:a(Walrus:b(Name:c))")
	wantExpr(t, "(a := b).c", "Attr:c(Walrus:a(Name:b))")
	wantExpr(t, "f((a := b), (c := d))", "Call(Name:f Walrus:a(Name:b) Walrus:c(Name:d))")
	wantExpr(t, "[(a := b)]", "List(Walrus:a(Name:b))")
	wantExpr(t, "(a := (b, c))", "Walrus:a(Tuple(Name:b Name:c))")
	wantTree(t, "if (a := b) > c: pass", "If(Compare(Walrus:a(Name:b) Cmp.3(Name:c)) Block(Pass))")
	wantNoForm(t, "a := b", "f(a := b)", "[a := b]", "{a := b}", "a[b := c]", "(a := b, c)", "(c, a := b)", "(a.b := c)", "((a) := b)", "(a := *b)", "(a := b := c)", "(a := b for c in d)", "(1 := a)", "(a :=)", "(:= a)", "(a := b,)", "if a := b: pass", "f(k=a := b)", "(a := yield)", "x = a := b", "lambda: a := b")
}

func TestP5Tails(t *testing.T) {
	wantExpr(t, "a.b.c", "Attr:c(Attr:b(Name:a))")
	wantExpr(t, "a.b(c)[d].e", "Attr:e(Index(Call(Attr:b(Name:a) Name:c) Name:d))")
	wantExpr(t, "a()()", "Call(Call(Name:a))")
	wantExpr(t, "1 .a", "Attr:a(Int:1)")
	wantExpr(t, "1.5 .a", "Attr:a(Float:1.5)")
	wantExpr(t, "'a'.b", "Attr:b(Str:a)")
	wantExpr(t, "f'a'.b", "Attr:b(FStr(Str:a))")
	wantExpr(t, "None.a", "Attr:a(Const)")
	wantExpr(t, "1[2](3)", "Call(Index(Int:1 Int:2) Int:3)")
	wantExpr(t, "[].a", "Attr:a(List)")
	wantExpr(t, "{}[a]", "Index(Dict Name:a)")
	wantExpr(t, "().a", "Attr:a(Tuple)")
	wantExpr(t, "(a, b)[0]", "Index(Tuple(Name:a Name:b) Int:0)")
	wantExpr(t, "(-a).b", "Attr:b(Unary.2(Name:a))")
	wantExpr(t, "(a + b)(c)", "Call(Binary.6(Name:a Name:b) Name:c)")
	wantExpr(t, "(lambda: a)()", "Call(Lambda(Params Name:a))")
	wantExpr(t, "(yielded)[a]", "Index(Name:yielded Name:a)")
	wantNoTree(t, "1.a", impl.FaultNumber, 1)
}

func TestP5Subscripts(t *testing.T) {
	of := func(src string, want string) {
		t.Helper()
		wantExpr(t, "a["+src+"]", "Index(Name:a "+want+")")
	}
	of("b", "Name:b")
	of("b, c", "Tuple(Name:b Name:c)")
	of("b,", "Tuple(Name:b)")
	of("b, c,", "Tuple(Name:b Name:c)")
	of("(b, c)", "Tuple(Name:b Name:c)")
	of("()", "Tuple")
	of("(*b, c)", "Tuple(Star(Name:b) Name:c)")
	of("b if c else d", "Cond(Name:c Name:b Name:d)")
	of("lambda: b", "Lambda(Params Name:b)")
	of("lambda: b:c", "Slice(Lambda(Params Name:b) Name:c Absent)")
	of("lambda b:c:d", "Slice(Lambda(Params(Param.1:b) Name:c) Name:d Absent)")
	of("(b := c)", "Walrus:b(Name:c)")
	of("[b]", "List(Name:b)")
	parts := []string{"", "b"}
	for _, low := range parts {
		for _, high := range parts {
			for _, step := range parts {
				want := "Slice(" + strings.Join([]string{partTold(low), partTold(high), partTold(step)}, " ") + ")"
				of(low+":"+high+":"+step, want)
				of(low+":"+high+":"+step+",", "Tuple("+want+")")
				of("x, "+low+" : "+high+" : "+step+", y", "Tuple(Name:x "+want+" Name:y)")
				if step == "" {
					of(low+":"+high, want)
					of(low+":"+high+", ::", "Tuple("+want+" Slice(Absent Absent Absent))")
				}
			}
		}
	}
	of("1:2, b, ::3", "Tuple(Slice(Int:1 Int:2 Absent) Name:b Slice(Absent Absent Int:3))")
	of("b[c:d]:e", "Slice(Index(Name:b Slice(Name:c Name:d Absent)) Name:e Absent)")
	wantNoForm(t, "a[]", "a[,]", "a[b c]", "a[:::]", "a[b:c:d:e]", "a[*b]", "a[*b, c]", "a[**b]", "a[b=c]", "a[b for b in c]", "a[,b]", "a[b,,c]", "a[b:=c]", "a[:=c]", "a[yield]", "a[(b:c)]", "[b:c]", "(b:c)", "f(b:c)", "a[b, c d]", "a[:,,]")
}

func partTold(part string) string {
	if part == "" {
		return "Absent"
	}
	return "Name:" + part
}

func TestP5Calls(t *testing.T) {
	of := func(src string, want string) {
		t.Helper()
		wantExpr(t, "f("+src+")", "Call("+strings.TrimSpace("Name:f "+want)+")")
	}
	of("", "")
	of("a", "Name:a")
	of("a,", "Name:a")
	of("a, b", "Name:a Name:b")
	of("*a", "Star(Name:a)")
	of("*a,", "Star(Name:a)")
	of("*a or b", "Star(Bool.2(Name:a Name:b))")
	of("*a, b, *c", "Star(Name:a) Name:b Star(Name:c)")
	of("k=a", "Key:k(Name:a)")
	of("k=a,", "Key:k(Name:a)")
	of("k=a, k=b", "Key:k(Name:a) Key:k(Name:b)")
	of("**a", "KStar(Name:a)")
	of("**a,", "KStar(Name:a)")
	of("**a if b else c, **d", "KStar(Cond(Name:b Name:a Name:c)) KStar(Name:d)")
	of("**a, k=b, **c, l=d", "KStar(Name:a) Key:k(Name:b) KStar(Name:c) Key:l(Name:d)")
	of("a, *b, c, k=d, **e, l=f", "Name:a Star(Name:b) Name:c Key:k(Name:d) KStar(Name:e) Key:l(Name:f)")
	of("k=lambda: a, l=b", "Key:k(Lambda(Params Name:a)) Key:l(Name:b)")
	of("a == b", "Compare(Name:a Cmp.5(Name:b))")
	of("(a)", "Name:a")
	of("(a, b)", "Tuple(Name:a Name:b)")
	of("lambda: a, b", "Lambda(Params Name:a) Name:b")
	of("a if b else c", "Cond(Name:b Name:a Name:c)")
	of("i for i in a", "GenExp(Name:i For(Name:i Name:a))")
	of("(i for i in a)", "GenExp(Name:i For(Name:i Name:a))")
	of("(i for i in a),", "GenExp(Name:i For(Name:i Name:a))")
	of("(i for i in a), b", "GenExp(Name:i For(Name:i Name:a)) Name:b")
	of("k=(i for i in a)", "Key:k(GenExp(Name:i For(Name:i Name:a)))")
	of("*(i for i in a)", "Star(GenExp(Name:i For(Name:i Name:a)))")
	of("i for i in a if b for j in c", "GenExp(Name:i For(Name:i Name:a Name:b) For(Name:j Name:c))")
	of("a if b else c for i in d", "GenExp(Cond(Name:b Name:a Name:c) For(Name:i Name:d))")
	wantNoForm(t, "f(,)", "f(a,,)", "f(a b)", "f(k=a, b)", "f(k=a, *b)", "f(**a, b)", "f(**a, *b)", "f(k=a, b.c)", "f(k=a, (b))", "f(k=a, 1)", "f(**a, b + c)", "f(i for i in a,)", "f(i for i in a, b)", "f(a, i for i in b)", "f(k=i for i in a)", "f(*i for i in a)", "f(**i for i in a)", "f(i for i in a for)",
		"f(a.b=c)", "f((a)=b)", "f(1=a)", "f('a'=b)", "f(None=a)", "f(a=)", "f(=a)", "f(*)", "f(**)", "f(***a)", "f(* *a)", "f(a=b=c)", "f(k=*a)", "f(k=**a)", "f(yield)", "f(yield a)", "f(a=yield)", "f(for i in a)", "f(if=a)", "f(a +)", "f(k=a, lambda: b)", "f(k=a, k)", "f(k=a, i for i in b)")
}

func TestP5Tuples(t *testing.T) {
	wantExpr(t, "()", "Tuple")
	wantExpr(t, "( )", "Tuple")
	wantExpr(t, "(a,)", "Tuple(Name:a)")
	wantExpr(t, "(a, b)", "Tuple(Name:a Name:b)")
	wantExpr(t, "(a, b,)", "Tuple(Name:a Name:b)")
	wantExpr(t, "((),)", "Tuple(Tuple)")
	wantExpr(t, "((a, b), c)", "Tuple(Tuple(Name:a Name:b) Name:c)")
	wantExpr(t, "(*a,)", "Tuple(Star(Name:a))")
	wantExpr(t, "(*a, *b, c)", "Tuple(Star(Name:a) Star(Name:b) Name:c)")
	wantExpr(t, "(*a or b, c)", "Tuple(Star(Bool.2(Name:a Name:b)) Name:c)")
	wantExpr(t, "a, b", "Tuple(Name:a Name:b)")
	wantExpr(t, "a,", "Tuple(Name:a)")
	wantExpr(t, "a, b,", "Tuple(Name:a Name:b)")
	wantExpr(t, "*a,", "Tuple(Star(Name:a))")
	wantExpr(t, "*a, b", "Tuple(Star(Name:a) Name:b)")
	wantExpr(t, "*a, *b", "Tuple(Star(Name:a) Star(Name:b))")
	wantExpr(t, "a, *b or c,", "Tuple(Name:a Star(Bool.2(Name:b Name:c)))")
	wantExpr(t, "*lambda: a, b", "Tuple(Star(Lambda(Params Name:a)) Name:b)")
	wantExpr(t, "a, (b, c)", "Tuple(Name:a Tuple(Name:b Name:c))")
	for _, last := range []string{"not b", "lambda: b", "-b", "+b", "~b", "1", ".5", "'b'", "f'b'", "None", "True", "(b)", "[b]", "{b}", "b"} {
		tree := branchOf(parsed(t, "a, "+last)).kids[0].kids[0]
		if tree.kind != impl.NTuple || len(tree.kids) != 2 {
			t.Error(last, tree.told(false))
		}
	}
	wantNoForm(t, "(,)", "(a,,)", "(, a)", "*a", "(*a)", "a,, b", ", a", ",", "(a b)", "**a", "(**a)", "(*a for a in b)", "(a, b for c in d)", "a, yield", "a, in b", "* *a, b", "*a = b", "a = *b", "(a, *)", "*", "x = *a or b", "(a for b in c,)", "(k=a)", "(a, k=b)", "*a += b", "*a; b")
}

func TestP5ListsSetsDicts(t *testing.T) {
	wantExpr(t, "[]", "List")
	wantExpr(t, "[a]", "List(Name:a)")
	wantExpr(t, "[a,]", "List(Name:a)")
	wantExpr(t, "[a, b]", "List(Name:a Name:b)")
	wantExpr(t, "[*a]", "List(Star(Name:a))")
	wantExpr(t, "[*a, b, *c,]", "List(Star(Name:a) Name:b Star(Name:c))")
	wantExpr(t, "[[a], (b, c)]", "List(List(Name:a) Tuple(Name:b Name:c))")
	wantExpr(t, "{a}", "Set(Name:a)")
	wantExpr(t, "{a,}", "Set(Name:a)")
	wantExpr(t, "{a, b}", "Set(Name:a Name:b)")
	wantExpr(t, "{*a}", "Set(Star(Name:a))")
	wantExpr(t, "{*a, b, *c,}", "Set(Star(Name:a) Name:b Star(Name:c))")
	wantExpr(t, "{a if b else c}", "Set(Cond(Name:b Name:a Name:c))")
	wantExpr(t, "{lambda: a}", "Set(Lambda(Params Name:a))")
	wantExpr(t, "{}", "Dict")
	wantExpr(t, "{a: b}", "Dict(Pair(Name:a Name:b))")
	wantExpr(t, "{a: b,}", "Dict(Pair(Name:a Name:b))")
	wantExpr(t, "{a: b, c: d}", "Dict(Pair(Name:a Name:b) Pair(Name:c Name:d))")
	wantExpr(t, "{**a}", "Dict(KStar(Name:a))")
	wantExpr(t, "{**a,}", "Dict(KStar(Name:a))")
	wantExpr(t, "{**a or b, c: d, **e}", "Dict(KStar(Bool.2(Name:a Name:b)) Pair(Name:c Name:d) KStar(Name:e))")
	wantExpr(t, "{a: b, **c, d: e,}", "Dict(Pair(Name:a Name:b) KStar(Name:c) Pair(Name:d Name:e))")
	wantExpr(t, "{lambda: a: lambda: b}", "Dict(Pair(Lambda(Params Name:a) Lambda(Params Name:b)))")
	wantExpr(t, "{a if b else c: d if e else f}", "Dict(Pair(Cond(Name:b Name:a Name:c) Cond(Name:e Name:d Name:f)))")
	wantExpr(t, "{(a, b): {c: d}}", "Dict(Pair(Tuple(Name:a Name:b) Dict(Pair(Name:c Name:d))))")
	wantNoForm(t, "[,]", "[a,,]", "[, a]", "[a b]", "[**a]", "[a: b]", "[a, k=b]", "[yield]", "[a, yield]", "{,}", "{a,,}", "{a: }", "{: a}", "{a: b c: d}", "{a, b: c}", "{a: b, c}", "{a: b, *c}", "{*a: b}", "{*a, **b}", "{**a, *b}", "{a, **b}", "{**a: b}", "{a: *b}", "{a: **b}", "{a: b: c}", "{a = b}", "{**a, b}", "{yield}", "{a: yield}", "{:}", "{**}", "[*]", "{*}", "{a: b, , }")
}

func TestP5Comprehensions(t *testing.T) {
	for _, form := range []struct{ open, close, kind, gives, told string }{
		{"[", "]", "ListComp", "e", "Name:e"}, {"{", "}", "SetComp", "e", "Name:e"}, {"(", ")", "GenExp", "e", "Name:e"}, {"{", "}", "DictComp", "e: v", "Name:e Name:v"},
		{"[", "]", "ListComp", "a if b else c", "Cond(Name:b Name:a Name:c)"}, {"{", "}", "SetComp", "lambda: a", "Lambda(Params Name:a)"}, {"(", ")", "GenExp", "(a, b)", "Tuple(Name:a Name:b)"}, {"{", "}", "DictComp", "a if b else c: lambda: d", "Cond(Name:b Name:a Name:c) Lambda(Params Name:d)"},
	} {
		of := func(src string, want string) {
			t.Helper()
			wantExpr(t, form.open+form.gives+" "+src+form.close, form.kind+"("+form.told+" "+want+")")
		}
		of("for i in a", "For(Name:i Name:a)")
		of("for i in a if b", "For(Name:i Name:a Name:b)")
		of("for i in a if b if not c", "For(Name:i Name:a Name:b Not(Name:c))")
		of("for i in a for j in b", "For(Name:i Name:a) For(Name:j Name:b)")
		of("for i in a if b for j in c if d if e", "For(Name:i Name:a Name:b) For(Name:j Name:c Name:d Name:e)")
		of("for i, j in a", "For(Tuple(Name:i Name:j) Name:a)")
		of("for i, in a", "For(Tuple(Name:i) Name:a)")
		of("for *i, j in a", "For(Tuple(Star(Name:i) Name:j) Name:a)")
		of("for (i, [j, k]) in a", "For(Tuple(Name:i List(Name:j Name:k)) Name:a)")
		of("for i.j in a", "For(Attr:j(Name:i) Name:a)")
		of("for i[j in k] in a", "For(Index(Name:i Compare(Name:j Cmp.7(Name:k))) Name:a)")
		of("for i in a or b", "For(Name:i Bool.2(Name:a Name:b))")
		of("for i in not a in b", "For(Name:i Not(Compare(Name:a Cmp.7(Name:b))))")
		of("for i in (a if b else c) if (d if e else f)", "For(Name:i Cond(Name:b Name:a Name:c) Cond(Name:e Name:d Name:f))")
		of("for i in (lambda: a) if (lambda: b)", "For(Name:i Lambda(Params Name:a) Lambda(Params Name:b))")
		of("for i in (a, b)", "For(Name:i Tuple(Name:a Name:b))")
		for _, bad := range []string{"for i in a,", "for i in a, b", "for i in a if b else c", "for i in lambda: a", "for i in a if lambda: b", "for i in *a", "for in a", "for i a", "for i in", "for i", "if a", "for i in a if", "for not i in a", "for i if a else b in c", "for *i in a", "for i for j in a", "for i in a; b", "for i in a = b", ", f for i in a", "for lambda: i in a"} {
			wantNoForm(t, form.open+form.gives+" "+bad+form.close)
		}
		for _, bad := range []string{"1", "i()", "i + j", "-i", "i, 1", "'i'", "(i, j())", "[*i, *j]", "*i, *j", "(i if j else k)", "{i}", "{}", "None", "(i := j)", "[i for i in j]", "f'i'"} {
			wantNoTarget(t, form.open+form.gives+" for "+bad+" in a"+form.close)
		}
	}
	wantNoForm(t, "[*a for a in b]", "{**a for a in b}", "{*a for a in b}", "{a: *b for a in c}", "[for i in a]", "i for i in a", "x = i for i in a", "[a, b for i in c]", "[(yield) for i in a]")
}

func TestP5FStrings(t *testing.T) {
	wantExpr(t, "f''", "FStr")
	wantExpr(t, "f'a'", "FStr(Str:a)")
	wantExpr(t, "f'{a}'", "FStr(Field(Name:a))")
	wantExpr(t, "f'a{{}}{b}c'", "FStr(Str:a{} Field(Name:b) Str:c)")
	wantExpr(t, "f'{a!r}{b!s}{c:>3}{d!r:x}{e:}'", "FStr(Field.1(Name:a) Field.2(Name:b) Field:>3(Name:c) Field.1:x(Name:d) Field(Name:e))")
	wantExpr(t, "f'{ a + b }'", "FStr(Field(Binary.6(Name:a Name:b)))")
	wantExpr(t, "f'{a, b}'", "FStr(Field(Tuple(Name:a Name:b)))")
	wantExpr(t, "f'{a,}'", "FStr(Field(Tuple(Name:a)))")
	wantExpr(t, "f'{*a, b}'", "FStr(Field(Tuple(Star(Name:a) Name:b)))")
	wantExpr(t, "f'{()}'", "FStr(Field(Tuple))")
	wantExpr(t, "f'{i for i in a}'", "FStr(Field(GenExp(Name:i For(Name:i Name:a))))")
	wantExpr(t, "f'{(a := b)}'", "FStr(Field(Walrus:a(Name:b)))")
	wantExpr(t, "f'{a:=b}'", "FStr(Field:=b(Name:a))")
	wantExpr(t, "f'{(lambda: a)}'", "FStr(Field(Lambda(Params Name:a)))")
	wantExpr(t, "f'{a if b else c}'", "FStr(Field(Cond(Name:b Name:a Name:c)))")
	wantExpr(t, "f'{ {a: b} }'", "FStr(Field(Dict(Pair(Name:a Name:b))))")
	wantExpr(t, "f'{a[b:c]}'", "FStr(Field(Index(Name:a Slice(Name:b Name:c Absent))))")
	wantExpr(t, "f'{a[{b: [c]}[(d)]]}'", "FStr(Field(Index(Name:a Index(Dict(Pair(Name:b List(Name:c))) Name:d))))")
	wantExpr(t, "f'{a != b}'", "FStr(Field(Compare(Name:a Cmp.6(Name:b))))")
	wantExpr(t, "f'{(((a)))}'", "FStr(Field(Name:a))")
	wantExpr(t, "f'{\ta}'", "FStr(Field(Name:a))")
	wantTree(t, "def f(): f'{yield}{(yield a)}'", "Def:f(Params Block(Expr(FStr(Field(Yield) Field(Yield(Name:a))))))")
	for _, bad := range []string{"+", "a b", "a)", "a) + (b)", ")", "a.", "lambda", "a;b", "a = b", "*a", "**a", "yield", "$", "1x", "01", "a for 1 in b", "(a", "a] + [b]", "i for i in a,", "pass", "a, b c", "k=a", "a @ b", ",", "(a)(b)).c", ")()(", strings.Repeat("(", 60) + strings.Repeat(")", 60), strings.Repeat("a", 61), "1e999", "i for i in a for f() in b"} {
		for _, src := range []string{"f'{" + bad + "}'", "f'x{" + bad + "}' = 1", "\"\"; f'''{a}{" + bad + "!r:3}'''"} {
			code := int64(impl.FaultForm)
			if _, fault := impl.Tokens(src); fault.Code != 0 {
				code = impl.FaultString
			}
			wantNoTree(t, src, code, 1)
			wantNoTree(t, "\n\n"+src+"\n+", code, 3)
		}
	}
	// The brackets around a field's expression count among its own.
	deep := strings.Repeat("(", 59) + "a" + strings.Repeat(")", 59)
	wantTree(t, "f'{"+deep+"}'", "Expr(FStr(Field(Name:a)))")
	wantNoForm(t, "f'{("+deep+")}'")
}
