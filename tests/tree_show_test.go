package tests

import (
	"strings"
	"testing"

	"loop.example/g00009/impl"
)

// showTexts are texts just as Show writes them, with every kind of node.
func showTexts() []string {
	return []string{
		"a\n", "1\n", "1.5\n", "1e+16\n", "'a'\n", "'it\\'s \"b\"'\n", "\"it's\"\n", "'\\n\\t\\r\\\\\\x00\\x7fé'\n", "None\n", "False\n", "True\n",
		"f\"\"\n", "f\"a\"\n", "f\"{(a)}\"\n", "f\"a{{}}'\\\"\\n{(a)!r}{(b)!s}{(c):>3}{(d)!r:x}b\"\n", "f\"{(a + b)}{((a, b))}{((i for i in a))}{((a := b))}{(lambda: a)}{({a: b})}{(a != b)}\"\n",
		"a.b\n", "(1).a\n", "(1.5).a\n", "'a'.b\n", "(-a).b\n", "(a + b).c\n", "[].a\n", "a[b]\n", "1[b]\n", "a[b + c]\n", "a[(b, c)]\n", "a[()]\n", "a[(b,)]\n", "a[b:c]\n", "a[:]\n", "a[::b]\n", "a[b:]\n", "a[:b]\n", "a[b::c]\n", "a[b + c:d or e:lambda: f]\n", "a[b:, c]\n", "a[b:c,]\n", "a[(b, c), :]\n", "a[b if c else d]\n",
		"f()\n", "f(a, *b, k=c, **d)\n", "f(a + b, *c + d, k=e or f, **g if h else i)\n", "f((a, b))\n", "f((i for i in a))\n", "f(lambda: a, b)\n", "(a + b)(c)\n", "(lambda: a)(b)\n", "a(b)(c)[d].e\n",
		"()\n", "(a,)\n", "(a, b)\n", "(*a,)\n", "(a, *b)\n", "(a, (b, c))\n", "[]\n", "[a]\n", "[a, *b]\n", "[a or b, *c or d]\n", "{a}\n", "{a, *b}\n", "{}\n", "{a: b}\n", "{a: b, **c}\n", "{a or b: c if d else e, **f or g}\n", "{lambda: a: lambda: b}\n",
		"[a for b in c]\n", "{a for b in c}\n", "(a for b in c)\n", "{a: b for c in d}\n", "[a or b for (c, *d) in e or f if not g if h == i for j in k]\n", "[a for b in (c if d else e) if (f if g else h)]\n", "[a for b in (lambda: c) if (lambda: d)]\n", "[a if b else c for d in e]\n", "[lambda: a for b in c]\n", "{a or b: c or d for e in f}\n", "[[a for b in c] for d in e]\n",
		"lambda: a\n", "lambda a: b\n", "lambda a, b=c, *d, e, f=g, **h: i\n", "lambda *, a: b\n", "lambda a, *, b, **c: d\n", "lambda a=b or c: d or e\n", "lambda: lambda: a\n", "lambda: a if b else c\n", "lambda **a: b\n",
		"a if b else c\n", "(a if b else c) if (d if e else f) else (g if h else i)\n", "(a or b) if (not c) else (lambda: d)\n", "a or b\n", "(a or b) or c\n", "a or (b or c)\n", "(a and b) or (not c)\n", "not a\n", "not (not a)\n", "not (a in b)\n", "not a.b\n",
		"a < b\n", "a < b <= c > d >= e == f != g in h not in i is j is not k\n", "(a < b) < (c < d)\n", "(a + b) == (c or d)\n", "(not a) in (not b)\n", "a | b\n", "a ^ b\n", "a & b\n", "a << b\n", "a >> b\n", "a + b\n", "a - b\n", "a * b\n", "a / b\n", "a // b\n", "a % b\n", "a**b\n", "(a + b) + c\n", "a + (b + c)\n", "(a**b)**c\n", "a**(b**c)\n", "-a\n", "+a\n", "~a\n", "-(-a)\n", "-(a**(-b))\n", "(-a)**b\n", "-1\n", "(-1).a\n",
		"(a := b)\n", "(a := b or c)\n", "(a := (b := c)).d\n", "f((a := b))\n", "[(a := b)]\n",
		"def f():\n    (yield)\n    (yield a)\n    (yield (a, b))\n    (yield a or b)\n    (yield from a or b)\n    a = (yield)\n    a += (yield b)\n    f((yield), [(yield)])\n",
		"a = b\n", "a = b = c\n", "(a, b) = (c, d)\n", "(a, *b) = [c, d] = ()\n", "a.b = c[d] = e\n", "a += b\n", "a.b **= (c, d)\n", "a[b:c] //= d or e\n", "a |= b\na ^= b\na &= b\na <<= b\na >>= b\na -= b\na *= b\na /= b\na %= b\n",
		"del a\n", "del (a, b)\n", "del [a, (b,)]\n", "pass\n", "raise\n", "raise a\n", "raise a or b from c or d\n", "assert a\n", "assert a or b, c or d\n", "global a, b\n", "nonlocal a\n", "import a\n", "import a as b\n", "from a import b\n", "from a import b, c as d, e\n",
		"if a:\n    b\n", "if a:\n    b\nelse:\n    c\n", "if a:\n    b\nelse:\n    if c:\n        d\n    else:\n        e\n", "if a or b:\n    if c:\n        d\n    e\nf\n",
		"while a:\n    break\nelse:\n    b\n", "for a in b:\n    continue\n", "for (a, *b) in (c, d):\n    e\nelse:\n    f\n", "for a in b or c:\n    d\n",
		"try:\n    a\nexcept:\n    b\n", "try:\n    a\nexcept b:\n    c\nexcept (d, e) as f:\n    g\nexcept:\n    h\nelse:\n    i\nfinally:\n    j\n", "try:\n    a\nfinally:\n    b\n",
		"with a:\n    b\n", "with a or b as c:\n    d\n", "with a as (b, c):\n    with d:\n        e\n",
		"def f():\n    return\n", "def f(a, b=c or d, *e, f, g=h, **i):\n    return a or b\n", "def f(*, a):\n    return (a, b)\n", "@a\n@b.c(d)\n@e or f\ndef f(a):\n    pass\n", "def f():\n    def g():\n        pass\n    return g\n",
		"class A:\n    pass\n", "class A(b, c.d, k=e or f):\n    a = b\n", "@a\nclass A(b):\n    def f(self):\n        pass\n", "class A((i for i in b)):\n    pass\n",
		"match a:\n    case b:\n        c\n", "match (a, b):\n    case c if d or e:\n        f\n    case _:\n        g\n",
		"match a:\n    case 1:\n        b\n    case -1.5:\n        b\n    case 'c':\n        b\n    case None:\n        b\n    case d.e.f:\n        b\n    case _:\n        b\n",
		"match a:\n    case []:\n        b\n    case [c]:\n        b\n    case [c, *d]:\n        b\n    case [*_, c]:\n        b\n    case {}:\n        b\n    case {1: c, -2: _, 'd': [], e.f: {}, **g}:\n        b\n    case {**h}:\n        b\n",
		"match a:\n    case A():\n        b\n    case A.B(c, 1, k=d, l=[e]):\n        b\n    case 1 | 2 | c.d:\n        b\n    case (1 | 2) | 3:\n        b\n    case (1 | 2) as c:\n        b\n    case 1 as c:\n        b\n    case (1 as c) as d:\n        b\n    case (1 as c) | (2 as c):\n        b\n    case [1 | 2, 3 as c]:\n        b\n    case A(1 | 2, k=3 as c):\n        b\n    case {1: 2 | 3}:\n        b\n",
	}
}

func TestP5ShownAsItIs(t *testing.T) {
	seen := map[int64]bool{}
	for _, src := range append(showTexts(), "") {
		wantShow(t, src, src)
		for _, n := range parsed(t, src).Nodes {
			seen[n.Kind] = true
		}
	}
	for i, word := range nodeWords() {
		if !seen[int64(i+1)] {
			t.Error("never shown:", word)
		}
	}
}

func TestP5ShownInItsForm(t *testing.T) {
	for _, c := range [][2]string{
		// Each statement is a line of its own.
		{"a; b;c", "a\nb\nc\n"}, {"a;", "a\n"}, {"\n\n# note\na # note\n\n", "a\n"}, {"(a,\n  b)", "(a, b)\n"}, {"a + \\\n b", "a + b\n"},
		{"if a: b; c\nd", "if a:\n    b\n    c\nd\n"}, {"if a:\n b\nelif c: d", "if a:\n    b\nelse:\n    if c:\n        d\n"}, {"if a: b\nelif c: d\nelse: e", "if a:\n    b\nelse:\n    if c:\n        d\n    else:\n        e\n"}, {"if a: b\nelse:\n if c: d", "if a:\n    b\nelse:\n    if c:\n        d\n"},
		{"while a: b\nelse: c", "while a:\n    b\nelse:\n    c\n"}, {"for a, b in c, d: e", "for (a, b) in (c, d):\n    e\n"}, {"for a, in b,: c", "for (a,) in (b,):\n    c\n"},
		{"with a as b, c, d as e: f", "with a as b:\n    with c:\n        with d as e:\n            f\n"}, {"try: a\nexcept b as c: d\nelse: e\nfinally: f", "try:\n    a\nexcept b as c:\n    d\nelse:\n    e\nfinally:\n    f\n"},
		{"@ a\n@ b\nclass A ( ) : pass", "@a\n@b\nclass A:\n    pass\n"}, {"def f ( a , b = 1 , * , c , ** d , ) : pass", "def f(a, b=1, *, c, **d):\n    pass\n"}, {"match a , b:\n case c , * d: e", "match (a, b):\n    case [c, *d]:\n        e\n"},
		// Brackets.
		{"a+b+c", "(a + b) + c\n"}, {"a+b*c", "a + (b * c)\n"}, {"((a))+((b))", "a + b\n"}, {"a<b<c", "a < b < c\n"}, {"a<(b<c)", "a < (b < c)\n"}, {"not not a", "not (not a)\n"}, {"not a==b", "not (a == b)\n"}, {"a or b and not c", "a or (b and (not c))\n"}, {"--a", "-(-a)\n"}, {"-a**-b", "-(a**(-b))\n"}, {"a**b**c", "a**(b**c)\n"}, {"- 1", "-1\n"}, {"-1 .a", "-(1).a\n"}, {"1 .a", "(1).a\n"}, {"1. .a", "(1.0).a\n"}, {"(1)[a]", "1[a]\n"},
		{"a if b else c if d else e", "a if b else (c if d else e)\n"}, {"lambda a:a if b else c", "lambda a: a if b else c\n"}, {"a or (lambda:b)", "a or (lambda: b)\n"}, {"(a,b)[c]", "(a, b)[c]\n"}, {"[a][b]", "[a][b]\n"}, {"(lambda:a)()", "(lambda: a)()\n"}, {"(a if b else c).d", "(a if b else c).d\n"}, {"(not a)[b]", "(not a)[b]\n"},
		{"a[b,c]", "a[(b, c)]\n"}, {"a[b,]", "a[(b,)]\n"}, {"a[b:,]", "a[b:,]\n"}, {"a[b:c:d,e]", "a[b:c:d, e]\n"}, {"a[b:c:]", "a[b:c]\n"}, {"a[::]", "a[:]\n"}, {"a[(b,c),d:]", "a[(b, c), d:]\n"}, {"a[b , : : c]", "a[b, ::c]\n"},
		{"f(i for i in a)", "f((i for i in a))\n"}, {"f((i for i in a),)", "f((i for i in a))\n"}, {"f(* a,** b,k = c)", "f(*a, **b, k=c)\n"}, {"f((a,))", "f((a,))\n"}, {"f((a:=b))", "f((a := b))\n"}, {"(yielded)", "yielded\n"},
		{"a,", "(a,)\n"}, {"a,b", "(a, b)\n"}, {"*a,b", "(*a, b)\n"}, {"a=b,c", "a = (b, c)\n"}, {"a,b=c", "(a, b) = c\n"}, {"{a:b , ** c}", "{a: b, **c}\n"}, {"{ * a }", "{*a}\n"}, {"[a,]", "[a]\n"},
		{"[a for b,c in d if e]", "[a for (b, c) in d if e]\n"}, {"[(a,b)for c in d]", "[(a, b) for c in d]\n"}, {"[a for b in c or d if e or f if not g]", "[a for b in c or d if e or f if not g]\n"}, {"[a for b in(c if d else e)if(lambda:f)]", "[a for b in (c if d else e) if (lambda: f)]\n"}, {"[a for b in (c)]", "[a for b in c]\n"}, {"((i)for i in(a,b))", "(i for i in (a, b))\n"},
		{"def f(): yield", "def f():\n    (yield)\n"}, {"def f(): a = yield b, c", "def f():\n    a = (yield (b, c))\n"}, {"def f(): a += yield from b", "def f():\n    a += (yield from b)\n"}, {"def f(): (yield) + 1", "def f():\n    (yield) + 1\n"}, {"lambda:(yield)", "lambda: (yield)\n"}, {"def f(): return a,b", "def f():\n    return (a, b)\n"}, {"del a,b", "del (a, b)\n"},
		// Strings.
		{"\"a\"", "'a'\n"}, {"\"it's\"", "\"it's\"\n"}, {"'''it's \"'''", "'it\\'s \"'\n"}, {"r'\\n'", "'\\\\n'\n"}, {"'''a\nb'''", "'a\\nb'\n"}, {"'\\u00e9\\x41'", "'éA'\n"}, {"f'a'", "f\"a\"\n"}, {"f'{a}'", "f\"{(a)}\"\n"}, {"f'{ a+b !r: >3}'", "f\"{(a + b)!r: >3}\"\n"}, {"f'{a,b}{()}'", "f\"{((a, b))}{(())}\"\n"}, {"f'\"{{a}}\\n'", "f\"\\\"{{a}}\\n\"\n"}, {"f'{{{a}}}'", "f\"{{{(a)}}}\"\n"}, {"f'''it's\n{a}'''", "f\"it's\\n{(a)}\"\n"}, {"f'{a:}'", "f\"{(a)}\"\n"}, {"f'{(a)}'", "f\"{(a)}\"\n"}, {"f'{i for i in a}'", "f\"{((i for i in a))}\"\n"},
		{"0x_ff", "255\n"}, {"1_000", "1000\n"}, {"1e5", "100000.0\n"}, {".5", "0.5\n"}, {"1e-7", "1e-07\n"},
		// Names.
		{"import a as a", "import a\n"}, {"from a import b as b,c as d", "from a import b, c as d\n"}, {"global a,b", "global a, b\n"},
		// Patterns.
		{"match a:\n case(1): b", "match a:\n    case 1:\n        b\n"}, {"match a:\n case(1,): b", "match a:\n    case [1]:\n        b\n"}, {"match a:\n case 1|2|3: b", "match a:\n    case 1 | 2 | 3:\n        b\n"}, {"match a:\n case 1|(2|3): b", "match a:\n    case 1 | (2 | 3):\n        b\n"}, {"match a:\n case 1|2 as c: b", "match a:\n    case (1 | 2) as c:\n        b\n"}, {"match a:\n case(1 as c)|(2 as c): b", "match a:\n    case (1 as c) | (2 as c):\n        b\n"}, {"match a:\n case[1|2,(3 as c)]: b", "match a:\n    case [1 | 2, 3 as c]:\n        b\n"}, {"match a:\n case{- 1:c,** d}: b", "match a:\n    case {-1: c, **d}:\n        b\n"}, {"match a:\n case A . B(c,k = d,): b", "match a:\n    case A.B(c, k=d):\n        b\n"}, {"match a:\n case * _,c if d: b", "match a:\n    case [*_, c] if d:\n        b\n"}, {"match a:\n case 1 as _: b", "match a:\n    case 1 as _:\n        b\n"},
	} {
		wantShow(t, c[0], c[1])
	}
}

func TestP5ShownUpToTheLimits(t *testing.T) {
	// As long as a text may be, and a byte more.
	long := strings.Repeat("a", 60) + "\n"
	full := strings.Repeat(long, 268) + strings.Repeat("b", 35) + "\n"
	if len(full) != impl.MaxText {
		t.Fatal(len(full))
	}
	wantShow(t, full, full)
	wantShow(t, strings.TrimSuffix(full, "\n"), full)
	for _, src := range []string{full[:len(full)-1] + "b", "'''a" + strings.Repeat("\n", 8190) + "b'''", full[:len(full)-2] + ","} {
		if text, ok := impl.Show(parsed(t, src)); ok || text != "" || impl.TreeOk(parsed(t, src)) {
			t.Errorf("%s: shown with %d bytes", shown(src), len(text))
		}
	}
	wantShow(t, "'''a"+strings.Repeat("\n", 8190)+"'''", "'a"+strings.Repeat("\\n", 8190)+"'\n")
	// Brackets that are not needed are written, up to as many as there may be.
	for n, want := range map[int]bool{59: true, 60: true, 61: true, 62: false, 90: false} {
		tree := parsed(t, strings.Repeat("-", n)+"a")
		if text, ok := impl.Show(tree); ok != want || ok && text != strings.Repeat("-(", n-1)+"-a"+strings.Repeat(")", n-1)+"\n" {
			t.Errorf("%d signs: %v %s", n, ok, shown(text))
		}
		if impl.TreeOk(tree) != want {
			t.Error(n, "TreeOk")
		}
	}
	// An elif is a block, of which there may be as many as indentations.
	for n, want := range map[int]bool{38: true, 39: true, 40: false, 41: false} {
		tree := parsed(t, "if a: b\n"+strings.Repeat("elif a: b\n", n))
		if _, ok := impl.Show(tree); ok != want || impl.TreeOk(tree) != want {
			t.Error(n, "elifs:", ok)
		}
	}
	for n, want := range map[int]bool{40: true, 41: false} {
		tree := parsed(t, "with "+strings.Repeat("a, ", n-1)+"a: b")
		if _, ok := impl.Show(tree); ok != want || impl.TreeOk(tree) != want {
			t.Error(n, "withs:", ok)
		}
	}
	for name, src := range deepTexts(60) {
		wantShownBack(t, name, parsed(t, src))
	}
	for _, src := range []string{"a\n" + strings.Repeat("pass\n", 2000), "[" + strings.Repeat("a, ", 5000) + "a]", strings.Repeat("a[:]\n", 857), "f(" + strings.Repeat("a,", 4000) + ")", "x = '" + strings.Repeat("é", 8000) + "'"} {
		wantShownBack(t, src, parsed(t, src))
	}
}
