package tests

import (
	"strings"
	"testing"

	"loop.example/g00009/impl"
)

// binders are statements that bind names, with how these and those that they use
// are meant in a function.
func binders() map[string]string {
	return map[string]string{
		"x = 0": "x=L", "x = a": "a=G x=L", "x = y = a": "a=G x=L y=L", "y[0] = x = a": "a=G x=L y=G", "x, y[0] = a": "a=G x=L y=G", "(x, y.z) = a": "a=G x=L y=G", "[x] = a": "a=G x=L", "(x,) = a": "a=G x=L", "[a.b, (c[d], [x, y])] = 0": "a=G c=G d=G x=L y=L", "*x, = a": "a=G x=L", "*x, y = 0": "x=L y=L", "[a.b, *x] = 0": "a=G x=L", "*(x,), = a": "a=G x=L", "*[a.b, x], = 0": "a=G x=L", "((x)) = 0": "x=L", "x = x": "x=L", "x = yield": "x=L", "x[0], x = a": "a=G x=L",
		"x += 1": "x=L", "x **= a": "a=G x=L", "x -= x": "x=L",
		"for x in a: pass": "a=G x=L", "for x, in a: pass": "a=G x=L", "for x, y in a: pass": "a=G x=L y=L", "for a.b, x in a: pass": "a=G x=L", "for (x) in a: pass": "a=G x=L", "for [*x] in a: pass": "a=G x=L", "for a[b], (c.d, *x) in e: pass": "a=G b=G c=G e=G x=L",
		"for a.b in c:\n  x = 0": "a=G c=G x=L", "for a.b in c: pass\nelse: x = 0": "a=G c=G x=L", "while a: x = 0": "a=G x=L", "while a: pass\nelse: x = 0": "a=G x=L", "if a: x = 0": "a=G x=L", "if a: pass\nelif b: x = 0": "a=G b=G x=L", "if a: pass\nelse: x = 0": "a=G x=L",
		"with a as x: pass": "a=G x=L", "with a as (x, b.c): pass": "a=G b=G x=L", "with a as [b.c, *x]: pass": "a=G b=G x=L", "with a as x, b as y: pass": "a=G b=G x=L y=L", "with a, b as x: pass": "a=G b=G x=L", "with a: x = 0": "a=G x=L", "with a as b.c, d: x = 0": "a=G b=G d=G x=L",
		"del x": "x=L", "del x, y": "x=L y=L", "del x, a.b": "a=G x=L", "del (x, a[b])": "a=G b=G x=L", "del [a.b, x]": "a=G x=L", "del ((a.b, [x]),)": "a=G x=L",
		"def x(): pass": "x=L", "def x(y=z): pass": "x=L z=G", "@a\ndef x(): pass": "a=G x=L", "class x: pass": "x=L", "@a\nclass x(b, c=d): pass": "a=G b=G d=G x=L",
		"import x": "x=L", "import a as x": "x=L", "from a import x": "x=L", "from a import b as x": "x=L", "from a import x as y": "y=L", "from x import y, a as b, c": "b=L c=L y=L", "import x as x": "x=L",
		"try: pass\nexcept a as x: pass": "a=G x=L", "try: pass\nexcept a: pass\nexcept b as x: pass": "a=G b=G x=L", "try: x = 0\nfinally: pass": "x=L", "try: pass\nfinally: x = 0": "x=L", "try: pass\nexcept: x = 0": "x=L", "try: pass\nexcept: pass\nelse: x = 0": "x=L",
		"match a:\n  case x: pass": "a=G x=L", "match a:\n  case [x, y]: pass": "a=G x=L y=L", "match a:\n  case [*x]: pass": "a=G x=L", "match a:\n  case *x, _: pass": "a=G x=L", "match a:\n  case {1: x, 'k': y}: pass": "a=G x=L y=L", "match a:\n  case {b.c: _, **x}: pass": "a=G b=G x=L", "match a:\n  case 1 as x: pass": "a=G x=L", "match a:\n  case y as x: pass": "a=G x=L y=L", "match a:\n  case b.c(x): pass": "a=G b=G x=L", "match a:\n  case b(c=x): pass": "a=G b=G x=L", "match a:\n  case [x] | (x, _): pass": "a=G x=L", "match a:\n  case _ if b: x = 0": "a=G b=G x=L", "match a:\n  case 0: pass\n  case [[{1: (b.c | 2) as x}]]: pass": "a=G b=G x=L", "match x:\n  case x if x: x": "x=L", "match a:\n  case {1: 2, **_}: pass": "_=L a=G", "match a:\n  case x as _: pass": "_=L a=G x=L",
		"(x := 0)": "x=L", "a[(x := b)]": "a=G b=G x=L", "f'{(x := a)}'": "a=G x=L", "if (x := a): pass": "a=G x=L", "y = (x := 0)": "x=L y=L", "assert (x := 0), a": "a=G x=L", "((x := (y := a)))": "a=G x=L y=L", "(x := x)": "x=L",
	}
}

// inBody is a text with statements indented in it.
func inBody(head string, stmts string) string {
	return head + "\n  " + strings.ReplaceAll(stmts, "\n", "\n  ")
}

// wantNamesOf wants the names of one of a text's scopes, as told.
func wantNamesOf(t *testing.T, src string, place int, want string) {
	t.Helper()
	tree := parsed(t, src)
	list, fault := impl.Scopes(tree)
	if fault.Code != 0 || len(list) <= place {
		t.Errorf("%q: fault %v, %d scopes", src, fault, len(list))
		return
	}
	_, got, _ := strings.Cut(scopeTold(tree, list[place]), ": ")
	if got != want {
		t.Errorf("%q: scope %d has %s; wanted %s", src, place, got, want)
	}
}

func TestP6WhatBinds(t *testing.T) {
	for src, want := range binders() {
		wantNamesOf(t, inBody("def f():", src), 1, want)
		if strings.Contains(src, "yield") {
			continue
		}
		wantNamesOf(t, src, 0, strings.ReplaceAll(want, "=L", "=G"))
		wantNamesOf(t, inBody("class K:", src), 1, strings.ReplaceAll(want, "=L", "=K"))
		wantNamesOf(t, inBody("def f():", inBody("class K:", src)), 2, strings.ReplaceAll(want, "=L", "=K"))
	}
}

func TestP6WhatIsOnlyUsed(t *testing.T) {
	for src, want := range map[string]string{
		"x": "x=G", "a.b = 0": "a=G", "a.b.c = 0": "a=G", "a[b] = c": "a=G b=G c=G", "a[b, c:d] = 0": "a=G b=G c=G d=G", "a[b].c, [d.e] = 0": "a=G b=G d=G", "(a.b) = 0": "a=G", "a(b).c = 0": "a=G b=G", "a(*b)[0] = 0": "a=G b=G", "a[b,] = 0": "a=G b=G", "[a, b][0] = c": "a=G b=G c=G", "(a, b).c = 0": "a=G b=G", "*a[b], c.d = 0": "a=G b=G c=G",
		"a.b += c": "a=G c=G", "a[b] += 1": "a=G b=G", "for a.b in c: pass": "a=G c=G", "for a[b] in c: pass": "a=G b=G c=G", "with a as b.c: pass": "a=G b=G", "with a as b[c]: pass": "a=G b=G c=G", "with a: pass": "a=G", "del a.b": "a=G", "del a[b], c.d": "a=G b=G c=G",
		"a = a.b = 0": "a=L", "() = a": "a=G", "[] = a": "a=G", "for () in a: pass": "a=G",
		"f(x=a)": "a=G f=G", "f(*a, **b)": "a=G b=G f=G", "a.x": "a=G", "{a: b, **c}": "a=G b=G c=G", "a, (b, [c], {d})": "a=G b=G c=G d=G", "[*a, b]": "a=G b=G", "a[b:c:d]": "a=G b=G c=G d=G", "a < b < c": "a=G b=G c=G", "a and b or not c": "a=G b=G c=G", "-a ** ~b": "a=G b=G", "a if b else c": "a=G b=G c=G", "f'{a}{b.c!r:x}d'": "a=G b=G", "'a'": "", "a, 1, None, True, 'b', 2.5": "a=G",
		"return a, b": "a=G b=G", "raise a from b": "a=G b=G", "assert a, b": "a=G b=G", "while a: b": "a=G b=G", "yield a": "a=G", "yield from a": "a=G", "try: a\nexcept b: c\nelse: d\nfinally: e": "a=G b=G c=G d=G e=G", "try: a\nexcept: b": "a=G b=G",
		"match a, *b:\n  case c.d: e": "a=G b=G c=G e=G", "match a:\n  case b.c.d | -1 | None | 'x': pass": "a=G b=G", "match a:\n  case [_, *_]: pass": "a=G", "match a:\n  case b(x=_): pass": "a=G b=G", "match a:\n  case {b.c: 1, 2: d.e}: pass": "a=G b=G d=G", "match a:\n  case _: pass\n  case b() if c: pass": "a=G b=G c=G", "match a:\n  case _(): pass\n  case _.b: pass": "_=G a=G",
		"global a": "a=G", "global a, b": "a=G b=G", "pass": "",
	} {
		wantNamesOf(t, inBody("def f():", src), 1, want)
		if strings.Contains(src, "yield") || strings.Contains(src, "return") {
			continue
		}
		wantNamesOf(t, src, 0, strings.ReplaceAll(want, "=L", "=G"))
		wantNamesOf(t, inBody("class K:", src), 1, strings.ReplaceAll(want, "=L", "=K"))
	}
}

func TestP6Parameters(t *testing.T) {
	for params, want := range map[string]string{
		"": "", "a": "a=L", "a, b": "a=L b=L", "a=1": "a=L", "*a": "a=L", "**a": "a=L", "*, a": "a=L", "*, a=1": "a=L", "a, b=c, *d, e, f=g, **h": "a=L b=L d=L e=L f=L h=L",
	} {
		wantNamesOf(t, "def x("+params+"): pass", 1, want)
		wantNamesOf(t, "lambda "+params+": 0", 1, want)
		wantNamesOf(t, "class K:\n  def x("+params+"): pass", 2, want)
		held := strings.ReplaceAll(want, "=L", "=C")
		names := strings.ReplaceAll(strings.ReplaceAll(want, "=L", ""), " ", ", ")
		wantNamesOf(t, "lambda "+params+": lambda: ("+names+")", 1, held)
		wantNamesOf(t, "def x("+params+"):\n  return [("+names+") for _ in 0]", 1, held)
	}
	wantScopes(t, "def f(a, b=c, *d, e, g=h, **i): pass", "File: c=G f=G h=G", "Def:f<0: a=L b=L d=L e=L g=L i=L")
	wantScopes(t, "lambda a, b=c, *d, e, g=h, **i: a", "File: c=G h=G", "Lambda<0: a=L b=L d=L e=L g=L i=L")
	// A parameter that is bound again, or deleted, is what it was.
	wantScopes(t, "def f(a):\n  a = 1\n  del a", "File: f=G", "Def:f<0: a=L")
}

func TestP6Clauses(t *testing.T) {
	wantScopes(t, "[0 for a in b]", "File: b=G", "ListComp<0: a=L")
	wantScopes(t, "{0 for a, c in b}", "File: b=G", "SetComp<0: a=L c=L")
	wantScopes(t, "(0 for (a, [c, *d]) in b)", "File: b=G", "GenExp<0 gen: a=L c=L d=L")
	wantScopes(t, "{0: 1 for *a, c in b}", "File: b=G", "DictComp<0: a=L c=L")
	wantScopes(t, "[0 for a.x in b]", "File: b=G", "ListComp<0: a=G")
	wantScopes(t, "[0 for a[c], d in b]", "File: b=G", "ListComp<0: a=G c=G d=L")
	wantScopes(t, "[0 for a in b for c in d for a in e]", "File: b=G", "ListComp<0: a=L c=L d=G e=G")
	wantScopes(t, "[0 for a in a]", "File: a=G", "ListComp<0: a=L")
	wantScopes(t, "[0 for a in b for b in a]", "File: b=G", "ListComp<0: a=L b=L")
}

func TestP6Walrus(t *testing.T) {
	// In one comprehension, and in several within each other.
	wantScopes(t, "[(x := i) for i in a]", "File: a=G x=G", "ListComp<0: i=L x=G")
	wantScopes(t, "{(x := i) for i in a}", "File: a=G x=G", "SetComp<0: i=L x=G")
	wantScopes(t, "{(x := i): (y := i) for i in a}", "File: a=G x=G y=G", "DictComp<0: i=L x=G y=G")
	wantScopes(t, "((x := i) for i in a)", "File: a=G x=G", "GenExp<0 gen: i=L x=G")
	wantScopes(t, "def f(): [(x := i) for i in a]", "File: f=G", "Def:f<0: a=G x=C", "ListComp<1: i=L x=F")
	wantScopes(t, "def f(): [[(x := i) for i in a] for j in b]", "File: f=G", "Def:f<0: b=G x=C", "ListComp<1: a=G j=L x=F", "ListComp<2: i=L x=F")
	wantScopes(t, "[[{(x := i) for i in a} for j in b] for k in c]", "File: c=G x=G", "ListComp<0: b=G k=L x=G", "ListComp<1: a=G j=L x=G", "SetComp<2: i=L x=G")
	// In each part of a comprehension.
	wantScopes(t, "[0 for i in a if (x := i)]", "File: a=G x=G", "ListComp<0: i=L x=G")
	wantScopes(t, "[0 for i in a for j in (x := i)]", "File: a=G x=G", "ListComp<0: i=L j=L x=G")
	wantScopes(t, "[0 for i[(x := 0)] in a]", "File: a=G x=G", "ListComp<0: i=G x=G")
	wantScopes(t, "[0 for i in (x := a)]", "File: a=G x=G", "ListComp<0: i=L")
	wantScopes(t, "def f(): [0 for i in (x := a)]", "File: f=G", "Def:f<0: a=G x=L", "ListComp<1: i=L")
	wantScopes(t, "def f(): [[0 for i in (x := a)] for j in b]", "File: f=G", "Def:f<0: b=G x=C", "ListComp<1: a=G j=L x=F", "ListComp<2: i=L")
	// In a lambda, which is a function of its own, and in a comprehension in one.
	wantScopes(t, "[lambda: (x := i) for i in a]", "File: a=G", "ListComp<0: i=C", "Lambda<1: i=F x=L")
	wantScopes(t, "lambda: (x := 0)", "File", "Lambda<0: x=L")
	wantScopes(t, "lambda: [(x := i) for i in a]", "File", "Lambda<0: a=G x=C", "ListComp<1: i=L x=F")
	wantScopes(t, "[lambda: [(x := i) for i in a] for j in b]", "File: b=G", "ListComp<0: j=L", "Lambda<1: a=G x=C", "ListComp<2: i=L x=F")
	wantScopes(t, "[lambda y=(x := 0): y for i in a]", "File: a=G x=G", "ListComp<0: i=L x=G", "Lambda<1: y=L")
	// What the function does with the name, the comprehension does too.
	wantScopes(t, "def f():\n  global x\n  [(x := i) for i in a]", "File: f=G", "Def:f<0: a=G x=G", "ListComp<1: i=L x=G")
	wantScopes(t, "def f():\n  x = 0\n  def g():\n    nonlocal x\n    [(x := i) for i in a]", "File: f=G", "Def:f<0: g=L x=C", "Def:g<1: a=G x=F", "ListComp<2: i=L x=F")
	wantScopes(t, "def f(x): [(x := i) for i in a]", "File: f=G", "Def:f<0: a=G x=C", "ListComp<1: i=L x=F")
	// In a class, in no comprehension.
	wantScopes(t, "class K: (x := 0)", "File: K=G", "Class:K<0: x=K")
	wantScopes(t, "class K: [0 for i in (x := a)]", "File: K=G", "Class:K<0: a=G x=K", "ListComp<1: i=L")
	wantScopes(t, "class K(a, b=(x := c)):\n  @(y := d)\n  def f(e=(z := 0)): pass", "File: K=G a=G c=G x=G", "Class:K<0: d=G f=K y=K z=K", "Def:f<1: e=L")
}

func TestP6WhatBelongsAround(t *testing.T) {
	// Defaults, decorators and bases: x is of the module, though it is bound within.
	wantScopes(t, "def f(a=x, *, b=y):\n  x = y = 0", "File: f=G x=G y=G", "Def:f<0: a=L b=L x=L y=L")
	wantScopes(t, "lambda a=x, *, b=a: (x := 0)", "File: a=G x=G", "Lambda<0: a=L b=L x=L")
	wantScopes(t, "@x.y\n@z\ndef f():\n  x = z = 0", "File: f=G x=G z=G", "Def:f<0: x=L z=L")
	wantScopes(t, "@x\nclass K(y, z=u):\n  x = y = u = 0", "File: K=G u=G x=G y=G", "Class:K<0: u=K x=K y=K")
	// So are those of what is in a function or a class.
	wantScopes(t, "def f(x):\n  def g(a=x): pass\n  @x\n  class K(x): pass", "File: f=G", "Def:f<0: K=L g=L x=L", "Def:g<1: a=L", "Class:K<1")
	wantScopes(t, "class K:\n  x = 0\n  def f(self, a=x): return x\n  @x\n  def g(self): pass\n  class L(x): x\n  h = lambda b=x: x", "File: K=G", "Class:K<0: L=K f=K g=K h=K x=K", "Def:f<1: a=L self=L x=G", "Def:g<1: self=L", "Class:L<1: x=G", "Lambda<1: b=L x=G")
	wantScopes(t, "def f(x): return lambda a=x: a", "File: f=G", "Def:f<0: x=L", "Lambda<1: a=L")
	// The iterable of the first clause, also where that has scopes itself.
	wantScopes(t, "def f(x): return [i for i in x]", "File: f=G", "Def:f<0: x=L", "ListComp<1: i=L")
	wantScopes(t, "class K:\n  x = 0\n  y = [x for i in x]", "File: K=G", "Class:K<0: x=K y=K", "ListComp<1: i=L x=G")
	wantScopes(t, "[i for i in [j for j in x]]", "File: x=G", "ListComp<0: i=L", "ListComp<0: j=L")
	wantScopes(t, "def f(x): return [i for i in [j for j in [k for k in x]]]", "File: f=G", "Def:f<0: x=L", "ListComp<1: i=L", "ListComp<1: j=L", "ListComp<1: k=L")
	wantScopes(t, "[i for i in [i for i in i]]", "File: i=G", "ListComp<0: i=L", "ListComp<0: i=L")
	wantScopes(t, "[i for i in (lambda: i)]", "File", "ListComp<0: i=L", "Lambda<0: i=G")
	wantScopes(t, "def f(x): return [i for i in (lambda j=x: x)]", "File: f=G", "Def:f<0: x=C", "ListComp<1: i=L", "Lambda<1: j=L x=F")
	wantScopes(t, "[[j for j in i] for i in x]", "File: x=G", "ListComp<0: i=L", "ListComp<1: j=L")
	wantScopes(t, "[[i for j in i] for i in x]", "File: x=G", "ListComp<0: i=C", "ListComp<1: i=F j=L")
}

func TestP6WhatBelongsWithin(t *testing.T) {
	// What a comprehension gives, its targets, other iterables, all conditions.
	wantScopes(t, "[a for b.c in d if e for f in g if h if k]", "File: d=G", "ListComp<0: a=G b=G e=G f=L g=G h=G k=G")
	wantScopes(t, "{a: b for c in d}", "File: d=G", "DictComp<0: a=G b=G c=L")
	wantScopes(t, "def f(x): return [i for i in 0 for j in x]", "File: f=G", "Def:f<0: x=C", "ListComp<1: i=L j=L x=F")
	wantScopes(t, "def f(x): return {i for i in 0 if x}", "File: f=G", "Def:f<0: x=C", "SetComp<1: i=L x=F")
	wantScopes(t, "def f(x): return (0 for x[0] in 0)", "File: f=G", "Def:f<0: x=C", "GenExp<1 gen: x=F")
	wantScopes(t, "class K:\n  x = 0\n  y = [0 for i in 0 if x]\n  z = [0 for i in 0 for j in x]", "File: K=G", "Class:K<0: x=K y=K z=K", "ListComp<1: i=L x=G", "ListComp<1: i=L j=L x=G")
	wantScopes(t, "[0 for i in 0 for j in [k for k in x]]", "File", "ListComp<0: i=L j=L x=G", "ListComp<1: k=L")
	wantScopes(t, "[0 for i in 0 for j in (lambda: i)]", "File", "ListComp<0: i=C j=L", "Lambda<1: i=F")
	// The body of a lambda, of a def and of a class.
	wantScopes(t, "lambda: a", "File", "Lambda<0: a=G")
	wantScopes(t, "def f(): a", "File: f=G", "Def:f<0: a=G")
	wantScopes(t, "class K: a", "File: K=G", "Class:K<0: a=G")
	// A function's own name, and a class's, are around it.
	wantScopes(t, "def f():\n  def g(): g\n  class K: K", "File: f=G", "Def:f<0: K=C g=C", "Def:g<1: g=F", "Class:K<1: K=F")
}
