package tests

import "testing"

// exprProgs have every kind of expression.
func exprProgs() []prog {
	rows := rowsOf("a = [1, 2, 3]\nd = {'k': 4}\ns = 'text'\n", `
7 => 7
0x_ff => 255
123456789012345678901234567890 => 123456789012345678901234567890
1.50 => 1.5
1e3 => 1000.0
'a\'b' => "a'b"
r'\n' => '\\n'
None => None
(True, False) => (True, False)
a => [1, 2, 3]
missing => !NameError
s.upper() => 'TEXT'
s.nothing => !AttributeError
a[0] => 1
a[-1] => 3
a[1:] => [2, 3]
a[:1:] => [1]
a[::-1] => [3, 2, 1]
s[1:3] => 'ex'
d['k'] => 4
() => ()
(1,) => (1,)
(1, 2) => (1, 2)
(1) => 1
[] => []
[1, *a, 2] => [1, 1, 2, 3, 2]
(*a,) => (1, 2, 3)
{1, *a} => {1, 2, 3}
{*()} => set()
{} => {}
{1: 2, **d, 3: 4} => {1: 2, 'k': 4, 3: 4}
{'k': 1, **d} => {'k': 4}
{**d, 'k': 1} => {'k': 1}
{**a} => !TypeError
[*5] => !TypeError
{[]} => !TypeError
{[]: 1} => !TypeError
[i * i for i in a] => [1, 4, 9]
[i for i in a if i > 1 if i < 3] => [2]
[(i, j) for i in a for j in range(i) if j] => [(2, 1), (3, 1), (3, 2)]
[[j for j in range(i)] for i in a] => [[0], [0, 1], [0, 1, 2]]
{i % 2 for i in a} => {1, 0}
{i: -i for i in a} => {1: -1, 2: -2, 3: -3}
list(i + 1 for i in a) => [2, 3, 4]
sum((i for i in a), 10) => 16
[i for i, in ((1,), (2,))] => [1, 2]
[x for x, *y in ['ab', 'cd']] => ['a', 'c']
{[] for i in a} => !TypeError
{[]: i for i in a} => !TypeError
(lambda: 5)() => 5
(lambda x, y=2, *z, w=3, **v: (x, y, z, w, v))(1) => (1, 2, (), 3, {})
1 if a else 2 => 1
1 if [] else 2 => 2
0 or '' or [] => []
0 or 'x' or 1 / 0 => 'x'
1 and 'x' and [] => []
1 and [] and 1 / 0 => []
not a => False
not [] => True
1 < 2 => True
1 < 2 < 3 => True
1 < 2 > 3 => False
3 < 2 < 1 / 0 => False
1 == 1.0 == True => True
1 in a => True
4 in a => False
4 not in a => True
None is None => True
a is a => True
[] is [] => False
a is not a => False
1 + 2 * 3 ** 2 => 19
-2 ** 2 => -4
2 ** -1 => !ValueError
(y := 5) + y => 10
[(y := 1), y + 1] => [1, 2]
f'{s}' => 'text'
f'<{s!r}>{{}}{1 + 1}' => "<'text'>{}2"
f'' => ''
`)
	return append(rows, []prog{
		{"x = 1\ndef f():\n  return [(x := i) for i in range(3)], x\nprint(f(), x)\n", "([0, 1, 2], 2) 1\n", ""},
		{"print([(z := i) for i in range(3)], z)\n", "[0, 1, 2] 2\n", ""},
		{"def g():\n  x = yield\n  y = (yield x) or 'none'\n  print(x, y)\n  yield\ni = g()\nprint(next(i), i.send(1), next(i))\n", "1 none\nNone 1 None\n", ""},
		{"def g(): return (yield from [1, 2])\nprint(list(g()))\n", "[1, 2]\n", ""},
		{"f = lambda: (yield 1)\nprint(list(f()), f())\n", "[1] <generator <lambda>>\n", ""},
		{"i = 'out'\nprint([i for i in range(2)], i)\n", "[0, 1] out\n", ""},
		{"class C:\n  n = 3\n  a = [i for i in range(n)]\n  def f(self): return n\nn = 4\nprint(C.a, C().f())\n", "[0, 1, 2] 4\n", ""},
		{"class C:\n  n = 3\n  a = [n for i in range(2)]\n", "", "NameError"},
		{"a = [lambda: i for i in range(3)]\nprint([f() for f in a])\n", "[2, 2, 2]\n", ""},
		{"g = (print(i) for i in (1, 2))\nprint('made')\nnext(g)\nprint(g)\n", "made\n1\n<generator <gen>>\n", ""},
		{"g = (i for i in 5)\n", "", "TypeError"},
		{"a = [1]\ng = (i for i in a)\na = [2]\nprint(list(g))\n", "[1]\n", ""},
		{"print({1: 'a', 1.0: 'b', True: 'c'}, {0, False, 0.0, -0.0})\n", "{1: 'c'} {0}\n", ""},
		{"class I:\n  def __getitem__(self, i): return i\nx = I()\nprint(x[1], x[1:2], x[::3], x[1, 2], x[1:2, ::], x[:])\n",
			"1 slice(1, 2, None) slice(None, None, 3) (1, 2) (slice(1, 2, None), slice(None, None, None)) slice(None, None, None)\n", ""},
	}...)
}

// saying is a function that prints what it is called with and answers it.
const saying = "def p(x, *more):\n  print(x, end=' ')\n  return more[0] if more else x\n"

// orderProgs say in which order things are evaluated by what they print.
func orderProgs() []prog {
	list := []prog{
		{"p(1) + p(2) * p(3)\n", "1 2 3 ", ""},
		{"p(2) ** p(3) ** p(1)\n", "2 3 1 ", ""},
		{"p(1) < p(2) < p(3)\n", "1 2 3 ", ""},
		{"p(2) < p(1) < p(3)\n", "2 1 ", ""},
		{"p(1) in p([1]) in p([[1]])\n", "1 [1] [[1]] ", ""},
		{"p(1) if p(0) else p(2)\n", "0 2 ", ""},
		{"p(1) if p(3) else p(2)\n", "3 1 ", ""},
		{"p(0) or p(2) or p(3)\n", "0 2 ", ""},
		{"p(1) and p(0) and p(3)\n", "1 0 ", ""},
		{"[p(1), p(2)], (p(3),), {p(4)}, {p(5): p(6), **p({})}\n", "1 2 3 4 5 6 {} ", ""},
		{"p(print)(p(1), *p([]), p(2), end=p('e'), **p({}))\n", "<builtin print> 1 [] 2 e {} 1 2e", ""},
		{"p([5])[p(0)]\n", "[5] 0 ", ""},
		{"p([5])[p(0):p(1):p(2)]\n", "[5] 0 1 2 ", ""},
		{"f'{p(1)}-{p(2)!r}'\n", "1 2 ", ""},
		{"p([0])[p(0)] = p([0])[p(0)] = p(7)\n", "7 [0] 0 [0] 0 ", ""},
		{"class A: pass\na = A()\np(1, a).x, p([0])[p(0)] = p(5), p(6)\n", "5 6 1 [0] 0 ", ""},
		{"p([1])[p(0)] += p(2)\n", "[1] 0 2 ", ""},
		{"class A: x = 1\np(9, A).x += p(2)\n", "9 2 ", ""},
		{"x = 1\nx += p(1)\n", "1 ", ""},
		{"x += p(1)\n", "", "NameError"},
		{"del p([0])[p(0)], p([1])[p(0)]\n", "[0] 0 [1] 0 ", ""},
		{"@p\n@p\ndef f(a=p(1), *, b=p(2)): pass\n", "1 2 <function f> <function f> ", ""},
		{"@p(1, p)\n@p(2, p)\ndef f(a=p(3)): pass\n", "1 2 3 <function f> <function f> ", ""},
		{"@p(1, p)\nclass C(p(2, object)): p(3)\n", "1 2 3 <class C> ", ""},
		{"class C(p(1)): p(2)\n", "1 2 ", "TypeError"},
		{"raise p(1, ValueError) from p(2, KeyError)\n", "1 2 ", "ValueError"},
		{"assert p(0), p(1)\n", "0 1 ", "AssertionError: 1"},
		{"assert p(1), p(2)\n", "1 ", ""},
		{"[p((i, j)) for i in p([1, 2]) for j in p([3]) if p(4)]\n", "[1, 2] [3] 4 (1, 3) [3] 4 (2, 3) ", ""},
		{"{p(i): p(-i) for i in p([1])}\n", "[1] 1 -1 ", ""},
		{"for x in p([1]): p(2)\nelse: p(3)\n", "[1] 2 3 ", ""},
		{"n = 2\nwhile p(n): n -= 1\nelse: p(9)\n", "2 1 0 9 ", ""},
		{"(p(1))(p(2), p(3))\n", "1 2 3 ", "TypeError"},
		{"print(p(1), a=p(2), a=p(3), b=p(4))\n", "1 2 3 ", "TypeError"},
		{"print(p(1), a=p(2), **p({'a': 1}), b=p(4))\n", "1 2 {'a': 1} ", "TypeError"},
		{"{p(1): p(2), p([]): p(3), p(4): p(5)}\n", "1 2 [] 3 ", "TypeError"},
		{"{p(1), p([]), p(4)}\n", "1 [] 4 ", "TypeError"},
		{"x = {}\nx[p(1)], x[p(2)] = p('ab')\np(x)\n", "ab 1 2 {1: 'a', 2: 'b'} ", ""},
		{"try: p(1)\nexcept p(2): p(3)\nelse: p(4)\nfinally: p(5)\n", "1 4 5 ", ""},
		{"try: 1 / 0\nexcept p(2, KeyError): p(3)\nexcept p(4, ZeroDivisionError): p(5)\nexcept p(6): p(7)\n", "2 4 5 ", ""},
		{"match p(3):\n  case 1 if p(1): p(2)\n  case 3 if p(0): p(4)\n  case x if p(x): p(5)\n", "3 0 3 5 ", ""},
	}
	for i := range list {
		list[i].src = saying + list[i].src
	}
	return list
}

func TestP10Expressions(t *testing.T) { wantProgs(t, exprProgs()) }

func TestP10Order(t *testing.T) { wantProgs(t, orderProgs()) }
