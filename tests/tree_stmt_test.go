package tests

import (
	"fmt"
	"strings"
	"testing"

	"loop.example/g00009/impl"
)

func TestP5LinesOfStatements(t *testing.T) {
	if tree := branchOf(parsed(t, "")); tree.told(true) != "File@1" {
		t.Error("an empty text:", tree.told(true))
	}
	wantTree(t, "a", "Expr(Name:a)")
	wantTree(t, "a\nb", "Expr(Name:a) Expr(Name:b)")
	wantTree(t, "a; b", "Expr(Name:a) Expr(Name:b)")
	wantTree(t, "a;", "Expr(Name:a)")
	wantTree(t, "a; b;\nc", "Expr(Name:a) Expr(Name:b) Expr(Name:c)")
	wantTree(t, "a, b; c,", "Expr(Tuple(Name:a Name:b)) Expr(Tuple(Name:c))")
	wantNoForm(t, ";", "; a", "a;; b", "a ; ; ", " a", "a b", "a; if b: c", "a; def f(): pass", "pass pass", "a; @b")
	wantNoTree(t, "a\n  b", impl.FaultForm, 2)
	wantNoTree(t, "if a:\n  b\n    c", impl.FaultForm, 3)
}

func TestP5Assignments(t *testing.T) {
	wantTree(t, "a = b", "Assign(Name:a Name:b)")
	wantTree(t, "a = b = c", "Assign(Name:a Name:b Name:c)")
	wantTree(t, "a = b, c = d, e", "Assign(Name:a Tuple(Name:b Name:c) Tuple(Name:d Name:e))")
	wantTree(t, "a, = b,", "Assign(Tuple(Name:a) Tuple(Name:b))")
	wantTree(t, "a.b = a[b] = c", "Assign(Attr:b(Name:a) Index(Name:a Name:b) Name:c)")
	wantTree(t, "a[b:c] = d", "Assign(Index(Name:a Slice(Name:b Name:c Absent)) Name:d)")
	wantTree(t, "f().a = 1 .b = 'c'[d] = e", "Assign(Attr:a(Call(Name:f)) Attr:b(Int:1) Index(Str:c Name:d) Name:e)")
	wantTree(t, "(a) = ((b)) = c", "Assign(Name:a Name:b Name:c)")
	wantTree(t, "(a, b) = [c, d] = e", "Assign(Tuple(Name:a Name:b) List(Name:c Name:d) Name:e)")
	wantTree(t, "() = [] = a", "Assign(Tuple List Name:a)")
	wantTree(t, "*a, = *a, b = b, *a = c", "Assign(Tuple(Star(Name:a)) Tuple(Star(Name:a) Name:b) Tuple(Name:b Star(Name:a)) Name:c)")
	wantTree(t, "[*a] = (*a, b) = *a, b, = c", "Assign(List(Star(Name:a)) Tuple(Star(Name:a) Name:b) Tuple(Star(Name:a) Name:b) Name:c)")
	wantTree(t, "*a, (*b, c), [d, *e] = f", "Assign(Tuple(Star(Name:a) Tuple(Star(Name:b) Name:c) List(Name:d Star(Name:e))) Name:f)")
	wantTree(t, "*(a, b), c = *[d], e = *f.g, h = *i[j], k = l", "Assign(Tuple(Star(Tuple(Name:a Name:b)) Name:c) Tuple(Star(List(Name:d)) Name:e) Tuple(Star(Attr:g(Name:f)) Name:h) Tuple(Star(Index(Name:i Name:j)) Name:k) Name:l)")
	wantTree(t, "a = *b, c", "Assign(Name:a Tuple(Star(Name:b) Name:c))")
	wantTree(t, "a = *b, *c", "Assign(Name:a Tuple(Star(Name:b) Star(Name:c)))")
	wantTree(t, "a = lambda: b", "Assign(Name:a Lambda(Params Name:b))")
	wantNoForm(t, "a =", "= a", "a = = b", "a = *b", "*a = b", "a = b =", "a: b", "a: b = c", "a = b; = c", "a = pass", "a = del b", "a = if b: c", "a = b += c", "a += b = c", "a = (*b)", "a = b c", "a = in b")
	wantNoTarget(t, "1 = a", "'a' = b", "f'a' = b", "None = a", "True = a", "f() = a", "a + b = c", "-a = b", "a < b = c", "not a = b", "a and b = c", "a if b else c = d", "lambda: a = b", "{} = a", "{a} = b", "{a: b} = c", "[a for a in b] = c", "(a for a in b) = c", "{a for a in b} = c", "{a: b for a in c} = d", "(a := b) = c", "a, 1 = b", "(a, f()) = b", "[a, -b] = c", "*a, *b = c", "[*a, *b] = c", "(a, *b, *c) = d", "(a, (b, 1)) = c", "a, [b, {c}] = d", "*f(), a = b", "a, *1 = b", "a = 1 = b", "a = b = c + d = e", "a ** b = c", "a.b() = c", "(a, b).c = d = e() = f", "* a + b, c = d", "(yield_()) = a")
}

func TestP5AugmentedAssignments(t *testing.T) {
	for i, sign := range []string{"|", "^", "&", "<<", ">>", "+", "-", "*", "/", "//", "%", "**"} {
		aug := fmt.Sprintf("Aug.%d", i+1)
		wantTree(t, "a "+sign+"= b", aug+"(Name:a Name:b)")
		wantTree(t, "a.b "+sign+"= b, c", aug+"(Attr:b(Name:a) Tuple(Name:b Name:c))")
		wantTree(t, "a[b, c:d] "+sign+"= *b, c", aug+"(Index(Name:a Tuple(Name:b Slice(Name:c Name:d Absent))) Tuple(Star(Name:b) Name:c))")
		wantTree(t, "(a) "+sign+"= b,", aug+"(Name:a Tuple(Name:b))")
		wantTree(t, "def f(): a "+sign+"= yield", "Def:f(Params Block("+aug+"(Name:a Yield)))")
		for _, bad := range []string{"1", "a, b", "a,", "(a, b)", "[a]", "[]", "()", "*a, b", "f()", "a + b", "-a", "a < b", "not a", "a or b", "a if b else c", "lambda: a", "'a'", "None", "{a}", "(a := b)", "[a for a in b]"} {
			wantNoTarget(t, bad+" "+sign+"= c")
		}
		wantNoForm(t, "a "+sign+"=", sign+"= a", "a "+sign+"= b "+sign+"= c", "a "+sign+"= b = c", "a = b "+sign+"= c", "*a "+sign+"= b", "a "+sign+" = b", "a "+sign+"= *b", "(a "+sign+"= b)", "f(a "+sign+"= b)")
	}
	wantNoForm(t, "a @= b", "a := b", "a <= = b", "a not= b")
	wantNoTree(t, "a != b = c", impl.FaultTarget, 1)
}

func TestP5Dels(t *testing.T) {
	wantTree(t, "del a", "Del(Name:a)")
	wantTree(t, "del (a)", "Del(Name:a)")
	wantTree(t, "del a, b.c, d[e]", "Del(Tuple(Name:a Attr:c(Name:b) Index(Name:d Name:e)))")
	wantTree(t, "del a,", "Del(Tuple(Name:a))")
	wantTree(t, "del (a, [b, (c)])", "Del(Tuple(Name:a List(Name:b Name:c)))")
	wantTree(t, "del (), []", "Del(Tuple(Tuple List))")
	wantTree(t, "del a[b:c]; d", "Del(Index(Name:a Slice(Name:b Name:c Absent))) Expr(Name:d)")
	wantNoForm(t, "del", "del *a", "del a b", "del a = b", "del ,", "del a,, b", "del pass", "del;", "del yield")
	wantNoTarget(t, "del 1", "del f()", "del a + b", "del a, 1", "del *a, b", "del (*a, b)", "del [*a]", "del a, (b, [*c])", "del None", "del 'a'", "del {a}", "del {}", "del a if b else c", "del lambda: a", "del not a", "del -a", "del (a := b)", "del a < b", "del [a for a in b]", "del f(); a", "del 1 a", "del f() = a")
}

func TestP5SmallStatements(t *testing.T) {
	wantTree(t, "pass", "Pass")
	wantTree(t, "raise", "Raise")
	wantTree(t, "raise a", "Raise(Name:a)")
	wantTree(t, "raise a from b", "Raise(Name:a Name:b)")
	wantTree(t, "raise a if b else c from lambda: d", "Raise(Cond(Name:b Name:a Name:c) Lambda(Params Name:d))")
	wantTree(t, "raise; raise (a, b)", "Raise Raise(Tuple(Name:a Name:b))")
	wantNoForm(t, "raise a, b", "raise from a", "raise a from", "raise a b", "raise a from b from c", "raise *a", "raise yield", "pass a", "pass,")
	wantTree(t, "assert a", "Assert(Name:a)")
	wantTree(t, "assert a, b", "Assert(Name:a Name:b)")
	wantTree(t, "assert lambda: a, b if c else d", "Assert(Lambda(Params Name:a) Cond(Name:c Name:b Name:d))")
	wantTree(t, "assert (a, b)", "Assert(Tuple(Name:a Name:b))")
	wantNoForm(t, "assert", "assert a,", "assert a, b, c", "assert a, b,", "assert *a", "assert a = b", "assert,")
	for word, kind := range map[string]string{"global": "Global", "nonlocal": "Nonlocal"} {
		wantTree(t, word+" a", kind+"(Name:a)")
		wantTree(t, word+" a, b, a", kind+"(Name:a Name:b Name:a)")
		wantNoForm(t, word, word+" a,", word+" a b", word+" a.b", word+" a = b", word+" (a)", word+" 1", word+" *a", word+" None", word+" ,a")
	}
	wantTree(t, "import a", "Import:a(Name:a)")
	wantTree(t, "import a as b", "Import:a(Name:b)")
	wantTree(t, "import a as a", "Import:a(Name:a)")
	wantNoForm(t, "import", "import a, b", "import a.b", "import a as", "import a as b.c", "import a as b, c", "import a as (b)", "import *", "import a b", "import 'a'", "import None", "import a as None")
	wantTree(t, "from a import b", "From:a(Alias:b(Name:b))")
	wantTree(t, "from a import b as c", "From:a(Alias:b(Name:c))")
	wantTree(t, "from a import b, c as d, e", "From:a(Alias:b(Name:b) Alias:c(Name:d) Alias:e(Name:e))")
	wantTree(t, "from a import b as b", "From:a(Alias:b(Name:b))")
	wantNoForm(t, "from", "from a", "from a import", "from a import *", "from a import (b)", "from a import b,", "from . import a", "from a.b import c", "from a import b.c", "from a import b as", "from a as b import c", "from a import b c", "from import a", "from a import b as 1", "from a import if")
}

func TestP5Ifs(t *testing.T) {
	wantTree(t, "if a: b", "If(Name:a Block(Expr(Name:b)))")
	wantTree(t, "if a: b; c;", "If(Name:a Block(Expr(Name:b) Expr(Name:c)))")
	wantTree(t, "if a:\n b\n c; d", "If(Name:a Block(Expr(Name:b) Expr(Name:c) Expr(Name:d)))")
	wantTree(t, "if a: b\nelse: c", "If(Name:a Block(Expr(Name:b)) Block(Expr(Name:c)))")
	wantTree(t, "if a: b\nelif c: d", "If(Name:a Block(Expr(Name:b)) Block(If(Name:c Block(Expr(Name:d)))))")
	wantTree(t, "if a: b\nelif c: d\nelse: e", "If(Name:a Block(Expr(Name:b)) Block(If(Name:c Block(Expr(Name:d)) Block(Expr(Name:e)))))")
	wantTree(t, "if a: b\nelif c:\n d\nelif e: f\nelse:\n g", "If(Name:a Block(Expr(Name:b)) Block(If(Name:c Block(Expr(Name:d)) Block(If(Name:e Block(Expr(Name:f)) Block(Expr(Name:g)))))))")
	wantTree(t, "if a: b\nelse:\n if c: d\n else: e", "If(Name:a Block(Expr(Name:b)) Block(If(Name:c Block(Expr(Name:d)) Block(Expr(Name:e)))))")
	wantTree(t, "if a:\n if b: c\nelse: d", "If(Name:a Block(If(Name:b Block(Expr(Name:c)))) Block(Expr(Name:d)))")
	wantTree(t, "if a: b\nif c: d\nelse: e", "If(Name:a Block(Expr(Name:b))) If(Name:c Block(Expr(Name:d)) Block(Expr(Name:e)))")
	wantTree(t, "if lambda: a: b", "If(Lambda(Params Name:a) Block(Expr(Name:b)))")
	wantTree(t, "if a if b else c: d", "If(Cond(Name:b Name:a Name:c) Block(Expr(Name:d)))")
	wantNoForm(t, "if: a", "if a", "if a b", "if a:", "if a, b: c", "if *a: b", "if a = b: c", "if a: if b: c", "if a: while b: c", "if a: b else: c", "else: a", "elif a: b", "if a: ; b", "if a: def f(): pass", "if a: class b: pass", "if yield: a")
	wantNoTree(t, "if a: b\nelse: c\nelse: d", impl.FaultForm, 3)
	wantNoTree(t, "if a: b\nelse: c\nelif d: e", impl.FaultForm, 3)
	wantNoTree(t, "if a:\nb", impl.FaultForm, 2)
	wantNoTree(t, "if a:\n b\n else: c", impl.FaultForm, 3)
	wantNoTree(t, "if a:\n# note\n\n\nb", impl.FaultForm, 5)
	wantNoTree(t, "if a:\n b\nelse\n c", impl.FaultForm, 3)
	wantNoTree(t, "if a: b\n c", impl.FaultForm, 2)
}

func TestP5Loops(t *testing.T) {
	wantTree(t, "while a: b", "While(Name:a Block(Expr(Name:b)))")
	wantTree(t, "while a:\n b\nelse:\n c", "While(Name:a Block(Expr(Name:b)) Block(Expr(Name:c)))")
	wantTree(t, "while a: break; continue", "While(Name:a Block(Break Continue))")
	wantTree(t, "for a in b: c", "Loop(Name:a Name:b Block(Expr(Name:c)))")
	wantTree(t, "for a in b: c\nelse: d", "Loop(Name:a Name:b Block(Expr(Name:c)) Block(Expr(Name:d)))")
	wantTree(t, "for a, b in c, d: e", "Loop(Tuple(Name:a Name:b) Tuple(Name:c Name:d) Block(Expr(Name:e)))")
	wantTree(t, "for a, in b,: c", "Loop(Tuple(Name:a) Tuple(Name:b) Block(Expr(Name:c)))")
	wantTree(t, "for *a, b in *c, d: e", "Loop(Tuple(Star(Name:a) Name:b) Tuple(Star(Name:c) Name:d) Block(Expr(Name:e)))")
	wantTree(t, "for a.b in c in d: e", "Loop(Attr:b(Name:a) Compare(Name:c Cmp.7(Name:d)) Block(Expr(Name:e)))")
	wantTree(t, "for a[b in c] in d: e", "Loop(Index(Name:a Compare(Name:b Cmp.7(Name:c))) Name:d Block(Expr(Name:e)))")
	wantTree(t, "for (a, [*b, c]), d in e: f", "Loop(Tuple(Tuple(Name:a List(Star(Name:b) Name:c)) Name:d) Name:e Block(Expr(Name:f)))")
	wantTree(t, "for () in a: b", "Loop(Tuple Name:a Block(Expr(Name:b)))")
	wantTree(t, "for (a) in lambda: b: c", "Loop(Name:a Lambda(Params Name:b) Block(Expr(Name:c)))")
	wantTree(t, "for a in b if c else d: e", "Loop(Name:a Cond(Name:c Name:b Name:d) Block(Expr(Name:e)))")
	wantNoForm(t, "for", "for a", "for a in", "for a in b", "for a b: c", "for in a: b", "for a in : b", "for *a in b: c", "for a in *b: c", "for not a in b: c", "for a not in b: c", "for a < b in c: d", "for a if b else c in d: e", "for lambda: a in b: c", "for a and b in c: d", "for a, not b in c: d", "for a = b in c: d", "for a in b, c d: e", "for a in yield: b", "for yield in a: b", "while a", "while: a", "while a, b: c", "for a in b: for c in d: e", "while a: while b: c", "for a in b = c: d")
	wantNoTarget(t, "for 1 in a: b", "for f() in a: b", "for a + b in c: d", "for a | b in c: d", "for -a in b: c", "for 'a' in b: c", "for None in a: b", "for a, 1 in b: c", "for a, f() in b: c", "for (a, 1) in b: c", "for *a, *b in c: d", "for (a < b) in c: d", "for {a} in b: c", "for (a := b) in c: d", "for (not a) in b: c", "for 1, in a: b", "for * a + b, c in d: e", "for 1 : a", "for f() a: b", "for 1, not a in b: c", "for (a)() in b: c")
	wantNoTree(t, "for a in b: c\nelse: d\nelse: e", impl.FaultForm, 3)
	wantNoTree(t, "while a: b\nelif c: d", impl.FaultForm, 2)
}

func TestP5Tries(t *testing.T) {
	wantTree(t, "try: a\nexcept: b", "Try(Block(Expr(Name:a)) Handler(Absent Block(Expr(Name:b))) Absent Absent)")
	wantTree(t, "try: a\nfinally: b", "Try(Block(Expr(Name:a)) Absent Block(Expr(Name:b)))")
	wantTree(t, "try: a\nexcept b: c", "Try(Block(Expr(Name:a)) Handler(Name:b Block(Expr(Name:c))) Absent Absent)")
	wantTree(t, "try: a\nexcept b as c: d", "Try(Block(Expr(Name:a)) Handler:c(Name:b Block(Expr(Name:d))) Absent Absent)")
	wantTree(t, "try:\n a\nexcept b.c:\n d\nexcept (e, f) as g: h\nexcept: i\nelse: j\nfinally:\n k", "Try(Block(Expr(Name:a)) Handler(Attr:c(Name:b) Block(Expr(Name:d))) Handler:g(Tuple(Name:e Name:f) Block(Expr(Name:h))) Handler(Absent Block(Expr(Name:i))) Block(Expr(Name:j)) Block(Expr(Name:k)))")
	wantTree(t, "try: a\nexcept: b\nelse: c", "Try(Block(Expr(Name:a)) Handler(Absent Block(Expr(Name:b))) Block(Expr(Name:c)) Absent)")
	wantTree(t, "try: a\nexcept: b\nfinally: c", "Try(Block(Expr(Name:a)) Handler(Absent Block(Expr(Name:b))) Absent Block(Expr(Name:c)))")
	wantTree(t, "try: a\nexcept lambda: b: c", "Try(Block(Expr(Name:a)) Handler(Lambda(Params Name:b) Block(Expr(Name:c))) Absent Absent)")
	wantTree(t, "try:\n try: a\n finally: b\nexcept: c", "Try(Block(Try(Block(Expr(Name:a)) Absent Block(Expr(Name:b)))) Handler(Absent Block(Expr(Name:c))) Absent Absent)")
	for _, bad := range []string{"except a, b: c", "except a as: b", "except a as b.c: d", "except as a: b", "except a as (b): c", "except *a: b", "except a as 1: b", "else: b", "except", "finally b", "elif a: b", "except a = b: c", "a", "finally a: b"} {
		wantNoTree(t, "try: a\n"+bad, impl.FaultForm, 2)
	}
	wantNoForm(t, "try: a", "try a: b", "try: ", "except: a", "finally: a", "try: try: a")
	wantNoTree(t, "try: a\nexcept: b\nexcept: c", impl.FaultForm, 3)
	wantNoTree(t, "try: a\nexcept: b\nexcept c: d", impl.FaultForm, 3)
	wantNoTree(t, "try: a\nelse: b\nexcept: c", impl.FaultForm, 2)
	wantNoTree(t, "try: a\nexcept: b\nfinally: c\nelse: d", impl.FaultForm, 4)
	wantNoTree(t, "try: a\nexcept: b\nelse: c\nexcept d: e", impl.FaultForm, 4)
	wantNoTree(t, "try: a\nexcept: b\nelse: c\nelse: d", impl.FaultForm, 4)
	wantNoTree(t, "try: a\nfinally: b\nfinally: c", impl.FaultForm, 3)
	wantNoTree(t, "try: a\nfinally: b\nexcept: c", impl.FaultForm, 3)
	wantNoTree(t, "try: a\n\n\nb", impl.FaultForm, 4)
	wantNoTree(t, "if a:\n try:\n  b\n\nc", impl.FaultForm, 5)
}

func TestP5Withs(t *testing.T) {
	wantTree(t, "with a: b", "With(Name:a Absent Block(Expr(Name:b)))")
	wantTree(t, "with a as b: c", "With(Name:a Name:b Block(Expr(Name:c)))")
	wantTree(t, "with a as b.c: d", "With(Name:a Attr:c(Name:b) Block(Expr(Name:d)))")
	wantTree(t, "with a() as (b, *c): d", "With(Call(Name:a) Tuple(Name:b Star(Name:c)) Block(Expr(Name:d)))")
	wantTree(t, "with a as [b, c[d]]: e", "With(Name:a List(Name:b Index(Name:c Name:d)) Block(Expr(Name:e)))")
	wantTree(t, "with a, b: c", "With(Name:a Absent Block(With(Name:b Absent Block(Expr(Name:c)))))")
	wantTree(t, "with a as b, c, d as e: f", "With(Name:a Name:b Block(With(Name:c Absent Block(With(Name:d Name:e Block(Expr(Name:f)))))))")
	wantTree(t, "with (a, b): c", "With(Tuple(Name:a Name:b) Absent Block(Expr(Name:c)))")
	wantTree(t, "with a if b else c as d: e", "With(Cond(Name:b Name:a Name:c) Name:d Block(Expr(Name:e)))")
	wantTree(t, "with lambda: a: b", "With(Lambda(Params Name:a) Absent Block(Expr(Name:b)))")
	wantTree(t, "with a:\n with b: c", "With(Name:a Absent Block(With(Name:b Absent Block(Expr(Name:c)))))")
	wantNoForm(t, "with: a", "with a", "with a,: b", "with a as b,: c", "with a as: b", "with (a as b): c", "with a as b c: d", "with *a: b", "with a as *b: c", "with a as b < c: d", "with a as not b: c", "with a as lambda: b: c", "with a = b: c", "with a as b as c: d", "with , a: b", "with a: with b: c", "with yield: a")
	wantNoTarget(t, "with a as 1: b", "with a as f(): b", "with a as b + c: d", "with a as (b, 1): c", "with a as (b, *c, *d): e", "with a as b, c as 'd': e", "with a as -b, c: d", "with a as None: b", "with a as (b < c): d", "with a as {b}: c", "with a as 1 b: c", "with a as f() = b: c")
}

func TestP5Defs(t *testing.T) {
	of := func(src string, want string) {
		t.Helper()
		wantTree(t, "def f("+src+"): pass", "Def:f("+want+" Block(Pass))")
		if !strings.HasSuffix(src, ",") {
			wantExpr(t, "lambda "+src+": x", "Lambda("+want+" Name:x)")
		}
	}
	of("", "Params")
	of("a", "Params(Param.1:a)")
	of("a,", "Params(Param.1:a)")
	of("a, b", "Params(Param.1:a Param.1:b)")
	of("a=b", "Params(Param.1:a(Name:b))")
	of("a, b=c, d=e,", "Params(Param.1:a Param.1:b(Name:c) Param.1:d(Name:e))")
	of("*a", "Params(Param.2:a)")
	of("*a,", "Params(Param.2:a)")
	of("*a, b", "Params(Param.2:a Param.3:b)")
	of("*, a", "Params(Param.3:a)")
	of("*, a,", "Params(Param.3:a)")
	of("*, a=b, c, d=e", "Params(Param.3:a(Name:b) Param.3:c Param.3:d(Name:e))")
	of("a, *, b", "Params(Param.1:a Param.3:b)")
	of("a=b, *c, d", "Params(Param.1:a(Name:b) Param.2:c Param.3:d)")
	of("a=b, *, c", "Params(Param.1:a(Name:b) Param.3:c)")
	of("**a", "Params(Param.4:a)")
	of("**a,", "Params(Param.4:a)")
	of("a, **b", "Params(Param.1:a Param.4:b)")
	of("a=b, **c,", "Params(Param.1:a(Name:b) Param.4:c)")
	of("*a, **b", "Params(Param.2:a Param.4:b)")
	of("*, a, **b", "Params(Param.3:a Param.4:b)")
	of("a, b=c, *d, e, f=g, **h", "Params(Param.1:a Param.1:b(Name:c) Param.2:d Param.3:e Param.3:f(Name:g) Param.4:h)")
	of("a=b if c else d, e=(f, g)", "Params(Param.1:a(Cond(Name:c Name:b Name:d)) Param.1:e(Tuple(Name:f Name:g)))")
	of("a=lambda b, c: d, e=f", "Params(Param.1:a(Lambda(Params(Param.1:b Param.1:c) Name:d)) Param.1:e(Name:f))")
	of("a=lambda a: a", "Params(Param.1:a(Lambda(Params(Param.1:a) Name:a)))")
	for _, bad := range []string{",", "a b", "a,,b", ",a", "a=b, c", "a=b, c, d=e", "*", "*,", "*, *a", "*, **a", "*a, *b", "*a, *, b", "*a=b", "**a=b", "**a, b", "**a, *b", "**a, **b", "**", "* *a", "(a)", "1", "'a'", "None", "a.b", "a: b", "a=", "=a", "a=*b", "a, (b, c)", "a=b c", "a=yield", "a=(yield)", "a for a in b", "if", "**a,,", "*,,a", "a, *, ", "*, a=b, *c"} {
		wantNoForm(t, "def f("+bad+"): pass", "lambda "+bad+": x")
	}
	wantNoForm(t, "def", "def f", "def f: pass", "def f(): ", "def f() pass", "def (a): pass", "def 1(): pass", "def None(): pass", "def f.g(): pass", "def f()(): pass", "def f(a) -> b: pass", "def f(a): def g(): pass", "def f() = a")
	wantTree(t, "def f():\n return", "Def:f(Params Block(Return))")
	wantTree(t, "def f(): return a, *b", "Def:f(Params Block(Return(Tuple(Name:a Star(Name:b)))))")
	wantTree(t, "def f(): return a,; return", "Def:f(Params Block(Return(Tuple(Name:a)) Return))")
	wantTree(t, "def f():\n def g(): pass\n a", "Def:f(Params Block(Def:g(Params Block(Pass)) Expr(Name:a)))")
}

func TestP5ParamNamesAreUnlike(t *testing.T) {
	for _, bad := range []string{"a, a", "a, a=b", "a=b, a=c", "a, *a", "a, **a", "*a, a", "*a, **a", "*, a, a", "*, a, **a", "a, *, a", "b, a, *c, d=e, **a", "a, b, c, b"} {
		wantNoForm(t, "def f("+bad+"): pass", "lambda "+bad+": x")
	}
	// It is found at the name.
	wantNoTree(t, "def f(a,\nb,\na,\nb): pass", impl.FaultForm, 3)
	wantNoTree(t, "x = (lambda a,\n*\na: b)", impl.FaultForm, 3)
}

// manyNames are n names, parted by commas.
func manyNames(n int) string {
	list := make([]string, n)
	for i := range list {
		list[i] = fmt.Sprint("a", i)
	}
	return strings.Join(list, ", ")
}

func TestP5MostParams(t *testing.T) {
	for _, of := range []string{"def f(%s): pass", "lambda %s: x"} {
		for _, ok := range []string{manyNames(60), manyNames(59) + ", *b", manyNames(59) + ", **b", manyNames(59) + ", *, b", manyNames(58) + ", *b, **c", manyNames(58) + ", *, b, c", "*b, " + manyNames(59), "*, " + manyNames(60), manyNames(59) + ", b=c"} {
			wantShownBack(t, ok, parsed(t, fmt.Sprintf(of, ok)))
		}
		for _, bad := range []string{manyNames(61), manyNames(60) + ", *b", manyNames(60) + ", **b", manyNames(60) + ", *, b", manyNames(59) + ", *b, **c", "*b, " + manyNames(60), "*, " + manyNames(61), manyNames(200)} {
			wantNoForm(t, fmt.Sprintf(of, bad))
		}
	}
	parsed(t, "def f("+manyNames(60)+",): pass")
	// Nothing can go on as soon as one more would have to come.
	wantNoTree(t, "def f("+manyNames(60)+",\na60,\na61): pass", impl.FaultForm, 2)
	wantNoTree(t, "def f("+manyNames(60)+",\n*\nb): pass", impl.FaultForm, 2)
	wantNoTree(t, "def f("+manyNames(60)+",\n*\n,b): pass", impl.FaultForm, 2)
	wantNoTree(t, "(lambda "+manyNames(60)+"\n,\na60: x)", impl.FaultForm, 2)
	wantNoTree(t, "(lambda "+manyNames(59)+",\n**b\n,\nc: x)", impl.FaultForm, 3)
	wantTree(t, "f("+strings.Repeat("a, ", 70)+")", "Expr(Call(Name:f"+strings.Repeat(" Name:a", 70)+"))")
}

func TestP5Classes(t *testing.T) {
	wantTree(t, "class A: pass", "Class:A(Bases Block(Pass))")
	wantTree(t, "class A(): pass", "Class:A(Bases Block(Pass))")
	wantTree(t, "class A(b): pass", "Class:A(Bases(Name:b) Block(Pass))")
	wantTree(t, "class A(b, c.d, k=e,): pass", "Class:A(Bases(Name:b Attr:d(Name:c) Key:k(Name:e)) Block(Pass))")
	wantTree(t, "class A(k=b, l=c): pass", "Class:A(Bases(Key:k(Name:b) Key:l(Name:c)) Block(Pass))")
	wantTree(t, "class A(b if c else d): pass", "Class:A(Bases(Cond(Name:c Name:b Name:d)) Block(Pass))")
	wantTree(t, "class A(i for i in b): pass", "Class:A(Bases(GenExp(Name:i For(Name:i Name:b))) Block(Pass))")
	wantTree(t, "class A((i for i in b), c): pass", "Class:A(Bases(GenExp(Name:i For(Name:i Name:b)) Name:c) Block(Pass))")
	wantTree(t, "class A:\n a = b\n def f(self): pass", "Class:A(Bases Block(Assign(Name:a Name:b) Def:f(Params(Param.1:self) Block(Pass))))")
	wantNoForm(t, "class", "class A", "class (b): pass", "class A(*b): pass", "class A(**b): pass", "class A(b, *c): pass", "class A(k=b, **c): pass", "class A(k=b, c): pass", "class A(,): pass", "class A(b c): pass", "class A(i for i in b,): pass", "class A(b, i for i in c): pass", "class A.b: pass", "class A(b)(c): pass", "class 1: pass", "class None: pass", "class A: class B: pass", "class A(a := b): pass", "class A(k=b, k): pass", "class A[b]: pass")
}

func TestP5Decorators(t *testing.T) {
	wantTree(t, "@a\ndef f(): pass", "Def:f(Params Block(Pass) Name:a)")
	wantTree(t, "@a\n@b.c(d)\ndef f(): pass", "Def:f(Params Block(Pass) Name:a Call(Attr:c(Name:b) Name:d))")
	wantTree(t, "@a\nclass A(b): pass", "Class:A(Bases(Name:b) Block(Pass) Name:a)")
	wantTree(t, "@a if b else c\n@lambda: d\n@(e, f)\ndef f(): pass", "Def:f(Params Block(Pass) Cond(Name:b Name:a Name:c) Lambda(Params Name:d) Tuple(Name:e Name:f))")
	wantTree(t, "class A:\n @a\n\n # note\n @b\n def f(): pass", "Class:A(Bases Block(Def:f(Params Block(Pass) Name:a Name:b)))")
	wantNoForm(t, "@", "@a", "@a, b\ndef f(): pass", "@a def f(): pass", "@*a\ndef f(): pass", "@a;\ndef f(): pass", "@a = b\ndef f(): pass", "@ @a\ndef f(): pass", "@pass\ndef f(): pass", "if a: @b", "@(yield)\ndef f(): pass")
	wantNoTree(t, "@a\nb", impl.FaultForm, 2)
	wantNoTree(t, "@a\n\nif b: c", impl.FaultForm, 3)
	wantNoTree(t, "@a\n  def f(): pass", impl.FaultForm, 2)
	wantNoTree(t, "@a\n@b\n", impl.FaultForm, 2)
	wantNoTree(t, "class A:\n @a\nb", impl.FaultForm, 3)
}

func TestP5Yields(t *testing.T) {
	of := func(src string, want string) {
		t.Helper()
		wantTree(t, "def f():\n "+src, "Def:f(Params Block("+want+"))")
		for _, around := range []string{src, "class A:\n " + src, "def f():\n class A:\n  " + src} {
			wantNoTree(t, around, impl.FaultForm, int64(1+strings.Count(around, "\n")))
		}
	}
	of("yield", "Expr(Yield)")
	of("yield;", "Expr(Yield)")
	of("yield a", "Expr(Yield(Name:a))")
	of("yield a, *b", "Expr(Yield(Tuple(Name:a Star(Name:b))))")
	of("yield a,", "Expr(Yield(Tuple(Name:a)))")
	of("yield (a)", "Expr(Yield(Name:a))")
	of("yield from a", "Expr(YieldFrom(Name:a))")
	of("yield from a if b else c", "Expr(YieldFrom(Cond(Name:b Name:a Name:c)))")
	of("(yield)", "Expr(Yield)")
	of("((yield))", "Expr(Yield)")
	of("(yield a, b)", "Expr(Yield(Tuple(Name:a Name:b)))")
	of("(yield from a)", "Expr(YieldFrom(Name:a))")
	of("(yield),", "Expr(Tuple(Yield))")
	of("(yield).a", "Expr(Attr:a(Yield))")
	of("a = yield", "Assign(Name:a Yield)")
	of("a = b = yield c, d", "Assign(Name:a Name:b Yield(Tuple(Name:c Name:d)))")
	of("a = yield from b", "Assign(Name:a YieldFrom(Name:b))")
	of("a += yield b", "Aug.6(Name:a Yield(Name:b))")
	of("a = (yield) + 1", "Assign(Name:a Binary.6(Yield Int:1))")
	of("a = (yield), b", "Assign(Name:a Tuple(Yield Name:b))")
	of("yield (yield)", "Expr(Yield(Yield))")
	of("f((yield), (yield a))", "Expr(Call(Name:f Yield Yield(Name:a)))")
	of("[(yield)]", "Expr(List(Yield))")
	of("a[(yield)]", "Expr(Index(Name:a Yield))")
	of("return (yield)", "Return(Yield)")
	of("if (yield): pass", "If(Yield Block(Pass))")
	of("def g(a=(yield)): pass", "Def:g(Params(Param.1:a(Yield)) Block(Pass))")
	of("lambda a=(yield): a", "Expr(Lambda(Params(Param.1:a(Yield)) Name:a))")
	of("[(yield) for a in b]", "Expr(ListComp(Yield For(Name:a Name:b)))")
	of("class B((yield)): pass", "Class:B(Bases(Yield) Block(Pass))")
	for _, bad := range []string{"yield = a", "yield a = b", "a = yield = b", "a = yield b = c", "yield += a", "a = yield += b", "a += yield = b", "a = b, yield", "a = yield, b", "yield, a", "yield from", "yield from a, b", "yield from *a", "yield *a", "yield yield", "a + yield", "f(yield)", "f(yield a)", "[yield]", "{yield}", "a[yield]", "return yield", "not yield", "lambda: yield", "(yield", "(yield a for a in b)", "(a, yield)", "(yield from a, b)", "del yield", "assert yield", "raise yield", "if yield: pass", "for a in yield: pass", "with yield: pass", "yield a b", "(a = yield)", "yield if a else b", "yield from a = b", "match yield:\n  case a: pass", "(yield := a)", "await a"} {
		_, fault := impl.Parse("def f():\n " + bad)
		if fault.Code == 0 || fault.Code == impl.FaultTarget || fault.Line != 2 {
			t.Errorf("%q: %v", bad, fault)
		}
	}
	wantNoTree(t, "def f():\n (yield) = a", impl.FaultTarget, 2)
	wantNoTree(t, "def f():\n (yield a) += b", impl.FaultTarget, 2)
	wantNoTree(t, "def f():\n for (yield) in a: pass", impl.FaultTarget, 2)
	wantTree(t, "def f():\n class A:\n  a = lambda: (yield)", "Def:f(Params Block(Class:A(Bases Block(Assign(Name:a Lambda(Params Yield))))))")
	wantTree(t, "class A:\n def f(self): yield", "Class:A(Bases Block(Def:f(Params(Param.1:self) Block(Expr(Yield)))))")
	wantNoTree(t, "def f(a=(yield)): pass", impl.FaultForm, 1)
	wantNoTree(t, "@(yield)\ndef f(): pass", impl.FaultForm, 1)
}

func TestP5WhereJumpsStand(t *testing.T) {
	// X stands where a break or continue may, or may not; Y likewise for return.
	inLoop := []string{
		"while a: X", "for a in b: X", "while a:\n if b: X", "while a:\n if b: c\n else: X", "while a:\n if b: c\n elif d: X", "while a:\n try: X\n finally: b", "while a:\n try: b\n except: X", "while a:\n try: b\n except: c\n else: X", "while a:\n try: b\n finally: X",
		"while a:\n with b: X", "while a:\n with b, c: X", "while a:\n match b:\n  case c: X", "while a:\n while b: c\n else: X", "for a in b:\n for c in d: e\n else: X", "class A:\n while a: X", "def f():\n for a in b: X", "while a:\n while b: c\n X", "while a:\n def f(): pass\n X", "while a:\n class A: pass\n X", "while a: (lambda: b); X",
	}
	outside := []string{
		"X", "if a: X", "if a: b\nelse: X", "while a: b\nelse: X", "for a in b: c\nelse: X", "while a: b\nX", "try: X\nfinally: a", "try: a\nfinally: X", "with a: X", "match a:\n case b: X", "def f(): X", "class A: X", "while a:\n def f(): X", "while a:\n class A: X", "for a in b:\n class A:\n  if c: X", "while a:\n def f():\n  while b: c\n  else: X", "def f():\n while a: b\n else: X", "while a: b\nelse:\n if c: X", "while a:\n class A:\n  while b: c\n  X",
	}
	for _, word := range []string{"break", "continue"} {
		for _, src := range inLoop {
			wantShownBack(t, src, parsed(t, strings.ReplaceAll(src, "X", word)))
		}
		for _, src := range outside {
			line := 1 + strings.Count(src[:strings.Index(src, "X")], "\n")
			wantNoTree(t, strings.ReplaceAll(src, "X", word), impl.FaultForm, int64(line))
			// It is found at the word, ahead of what is behind it.
			wantNoTree(t, strings.ReplaceAll(src, "X", word+" \\\n\\\n +"), impl.FaultForm, int64(line))
		}
		wantNoForm(t, "while a: "+word+" b", "while a: "+word+", b", "while a: "+word+" = b", "a = "+word)
	}
	for _, word := range []string{"return", "return a", "yield", "a = yield b", "return (yield)"} {
		for _, src := range append(inLoop, outside...) {
			line := 1 + strings.Count(src[:strings.Index(src, "X")], "\n")
			given := strings.ReplaceAll(src, "X", word)
			// What a function or a class is around decides, the innermost one.
			def, class := strings.LastIndex(src[:strings.Index(src, "X")], "def f():"), strings.LastIndex(src[:strings.Index(src, "X")], "class A:")
			if strings.Contains(src, "def f(): pass") || strings.Contains(src, "class A: pass") {
				def, class = -1, -1
			}
			if def > class {
				wantShownBack(t, given, parsed(t, given))
			} else {
				wantNoTree(t, given, impl.FaultForm, int64(line))
			}
			inDef := "def g():\n " + strings.ReplaceAll(given, "\n", "\n ")
			if class > def {
				wantNoTree(t, inDef, impl.FaultForm, int64(line+1))
			} else {
				wantShownBack(t, inDef, parsed(t, inDef))
			}
		}
	}
}
