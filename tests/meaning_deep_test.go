package tests

import (
	"fmt"
	"strings"
	"testing"

	"loop.example/g00009/impl"
)

// endlessProgs have calls of builtins and classes that lead to themselves without
// a frame, and without a tick, between.
func endlessProgs() []prog {
	list := []prog{}
	for _, row := range []string{
		"__len__ = property(len)|len(A())",
		"__len__ = property(bool)|A() and 1",
		"__bool__ = property(bool)|not A()",
		"__repr__ = property(repr)|repr([A()])",
		"__repr__ = property(print)|f'{A()!r}'",
		"__str__ = property(str)|print(A())",
		"__str__ = property(print)|print(A())",
		"__iter__ = property(iter)|list(A())",
		"__iter__ = property(set)|[x for x in A()]",
		"__iter__ = property(max)|a, b = A()",
		"__contains__ = property(all)\n  __iter__ = property(any)|1 in A()",
		"x = property(len)\n  __len__ = property(lambda a: a.x)|A().x",
		"x = property(str)\n  __str__ = property(repr)\n  __repr__ = property(str)|A().x",
	} {
		body, does, _ := strings.Cut(row, "|")
		list = append(list,
			prog{"class A:\n  " + body + "\n" + does + "\n", "", "RecursionError"},
			prog{"class A:\n  " + body + "\ntry: " + does + "\nexcept RecursionError: print('deep')\nprint(len([1]), str(2))\n", "deep\n1 2\n", ""})
	}
	return append(list, []prog{
		{"class A: pass\nA.__init__ = property(A)\nA()\n", "", "RecursionError"},
		{"class E(Exception): pass\nE.__init__ = property(E)\ntry: raise E\nexcept RecursionError: print('deep')\n", "deep\n", ""},
		{"class A: pass\nA.__call__ = A()\ntry: A()()\nexcept RecursionError: print('deep')\n", "deep\n", ""},
		{"class A: pass\na = A()\nA.__call__ = property(a)\na()\n", "", "RecursionError"},
		{"class A: pass\nA.x = property(A())\nA.__call__ = property(lambda a: a.x)\nA().x\n", "", "RecursionError"},
		{"class A: pass\nclass B: pass\nB.__get__ = A()\nA.__call__ = B()\nA()()\n", "", "RecursionError"},
		{"class A: pass\nA.__getattr__ = property(len)\nA.__len__ = property(lambda a: a.gone)\nA().none\n", "", "RecursionError"},
	}...)
}

func TestP10EndlessCalls(t *testing.T) {
	wantProgs(t, endlessProgs())
}

// Where each call costs a tick there is an end of these.
func TestP10EndlessCallsWithTicks(t *testing.T) {
	for _, src := range []string{
		"class A: pass\nl = [A()]\nA.__eq__ = l.count\nl[0] == 5\n",
		"class A: pass\nl = [A()]\nA.__eq__ = l.index\nl[0] == 5\n",
		"class A: pass\nA.__iter__ = property(iter)\nA.__next__ = property(next)\nnext(A())\n",
	} {
		for _, budget := range []int64{50, 3000, impl.MaxTicks} {
			if o := meaning(modsOf(src), budget); o.Code != impl.OutTicks || o.Ticks != budget {
				t.Errorf("%s\n with %d: %s", src, budget, outTold(o))
			}
		}
	}
	many := "class A: pass\nl = [A()]\nA.__eq__ = l.count\nfor i in range(500):\n  class B: pass\n  B.__call__ = A.__eq__\n  A.__eq__ = B()\nl[0] == 5\n"
	if o := meant(many); o.Code != impl.OutRaised && o.Code != impl.OutTicks {
		t.Error(outTold(o))
	}
}

// rowProgs are rows of n things that are called, or asked, through one another,
// with a function at their end; there is no row of frames in them.
func rowProgs(n int) []prog {
	list := []prog{}
	for _, row := range []string{
		"def f(*a): return len(a)|__call__ = x|x()|1",
		"f = len|__call__ = x|x('abc')|3",
		"f = len|__call__ = staticmethod(x)|x('abc')|3",
		"def f(*a): return len(a)|__call__ = classmethod(x)|x()|N",
		"def f(*a): return f|__call__ = property(x)|x()|<function f>",
		"f = {}.get|__call__ = x|x(1, 2)|2",
	} {
		part := strings.Split(row, "|")
		list = append(list, prog{fmt.Sprintf("%s\nx = f\nfor i in range(%d):\n  class C: %s\n  x = C()\nprint(%s)\n", part[0], n, part[1], part[2]), strings.Replace(part[3], "N", fmt.Sprint(n), 1) + "\n", ""})
	}
	for _, row := range []string{
		"return f|__get__ = x|y = x|D().y|<function f>",
		"return f|__get__ = __call__ = x|__len__ = x|len(D())|!TypeError",
		"return f|__get__ = x|y = x|D.y is x|True",
		"return f if len(a) < 4 else True|__get__ = __bool__ = x|__getattr__ = x|D().none|<function f>",
	} {
		part := strings.Split(row, "|")
		p := prog{fmt.Sprintf("def f(*a): %s\nx = f\nfor i in range(%d):\n  class C: %s\n  x = C()\nclass D: %s\nprint(%s)\n", part[0], n, part[1], part[2], part[3]), part[4] + "\n", ""}
		if exc, ok := strings.CutPrefix(part[4], "!"); ok {
			p.text, p.exc = "", exc
		}
		list = append(list, p)
	}
	return append(list,
		prog{fmt.Sprintf("class B:\n  def __call__(a, *b): pass\nC = B\nfor i in range(%d):\n  class C(B): __init__ = property(C) if i else lambda *a: None\nprint(type(C()) is C)\n", n), "True\n", ""},
		prog{fmt.Sprintf("m = lambda *a: len(a)\nfor i in range(%d):\n  class A: x = classmethod(m)\n  m = A.x\nprint(m())\n", n), fmt.Sprintf("%d\n", n), ""})
}

func TestP10RowsOfCalls(t *testing.T) {
	for _, n := range []int{1, 10, 49, 50, 51, 999, 1000, 1001, 1100, 1900} {
		wantProgs(t, rowProgs(n))
	}
}

func TestP10RowsOfCallsTicks(t *testing.T) {
	for _, n := range []int64{1, 999, 1001, 3500} {
		plain := fmt.Sprintf("def f(*a): return len(a)\nx = f\nfor i in range(%d):\n  class C:\n    __call__ = x\n  x = C()\nprint(x())\n", n)
		wantTicks(t, plain, 5*n+8)
	}
	for _, n := range []int64{1, 999, 1001, 2300} {
		// Each property is asked once, by a call and a return.
		asked := fmt.Sprintf("def f(*a): return f\nx = f\nfor i in range(%d):\n  class C: __call__ = property(x)\n  x = C()\nprint(x())\n", n)
		o := meaning(modsOf(asked), impl.MaxTicks)
		if o.Code != impl.OutEnd || o.Text != "<function f>\n" {
			t.Error(n, outTold(o))
		}
	}
}

// A row that is gone along very often without a tick between has its end, too.
func TestP10RowsOfCallsOften(t *testing.T) {
	src := "f = len\nfor i in range(3500):\n  class A: __call__ = f\n  f = A()\nprint(" + strings.Repeat("f(''), ", 1200) + "f('ab'))\n"
	wantProg(t, prog{src, strings.Repeat("0 ", 1200) + "2\n", ""})
}

// Rows without an end may be gone into again and again.
func TestP10EndlessRowsAgain(t *testing.T) {
	for _, src := range []string{
		"class A: __len__ = property(len)\na = A()\nfor i in range(3000):\n  try: len(a)\n  except RecursionError: pass\n",
		"class A: pass\na = A()\nA.__call__ = A()\nfor i in range(25):\n  try: a()\n  except RecursionError: pass\n",
		"class A: pass\na = A()\nA.__call__ = classmethod(a)\nfor i in range(25):\n  try: a()\n  except RecursionError: pass\n",
		"class A: pass\na = A()\nA.__call__ = property({a: a}.get)\nfor i in range(25):\n  try: a()\n  except RecursionError: pass\n",
	} {
		if o := meant(src); o.Code != impl.OutEnd {
			t.Error(src, outTold(o))
		}
	}
}

const longKeys = `
s = 'a' * 40
big = 2 ** 64
d = {s: 1, s + 'b': 2, big: 3, -big: 4, (s, big): 5, (s, -big): 6, (s,) * 20: 7, tuple(range(60)): 8, (s, (s, big)): 9}
`

// longKeyRows have keys of which the texts and numbers are long, or which are many
// things.
const longKeyRows = `
len(d) => 9
d['a' * 40] => 1
d['a' * 40 + 'b'] => 2
d['b' + 'a' * 40] => !KeyError: baaaaaaaaaaaaaaaaaaaaaaaaaaaaaaaaaaaaaaaa
d[2 ** 64] => 3
d[2.0 ** 64] => 3
d[-(2 ** 64)] => 4
d[-(2.0 ** 64)] => 4
2 ** 64 + 1 in d => False
2 ** 96 in d => False
2 ** 32 in d => False
d['a' * 40, 2 ** 64] => 5
d['a' * 40, 2.0 ** 64] => 5
d['a' * 40, -(2 ** 64)] => 6
('a' * 39, big) in d => False
(big, s) in d => False
d[('a' * 40,) * 20] => 7
('a' * 40,) * 19 in d => False
('a' * 40,) * 21 in d => False
d[tuple(range(60))] => 8
d[tuple([float(i) for i in range(60)])] => 8
tuple(range(61)) in d => False
tuple(reversed(range(60))) in d => False
d['a' * 40, ('a' * 40, 2 ** 64)] => 9
(('a' * 40, s), 2 ** 64) in d => False
('a' * 32 in {'a' * 32}, 'a' * 33 in {'a' * 33}, 'a' * 32 in {'a' * 33}) => (True, True, False)
(2 ** 63 in {2.0 ** 63}, -(2 ** 63) in {-(2.0 ** 63)}, 2 ** 63 - 1 in {2.0 ** 63}) => (True, True, False)
2 ** 64 in {chr(0) * 8 + chr(1) + chr(0) * 3} => False
len({(s, i) for i in range(50)} | {(s, i) for i in range(25, 75)}) => 75
len({2 ** i for i in range(60, 70)} & {2.0 ** i for i in range(65, 75)}) => 5
len({(s, float('nan')), (s, float('nan'))}) => 2
{(s, []): 1} => !TypeError
`

func TestP10LongKeys(t *testing.T) {
	wantProgs(t, rowsOf(longKeys, longKeyRows))
	for n := range 130 {
		text := strings.Repeat("k", n)
		src := fmt.Sprintf("d = {'%s': 1, ('%s',): 2, ('%s', '%s'): 3}\nk = 'k' * %d\nprint(d[k], d[k,], d[k, k], k + 'k' in d, (k, k + 'k') in d, (k, k, k) in d)\n", text, text, text, text, n)
		wantProg(t, prog{src, "1 2 3 False False False\n", ""})
	}
	// All of these keys have some 16 million bytes in them.
	wantProg(t, prog{"t = ('a' * 16384,) * 999\nl = [{t} for i in range(3000)]\nprint(len(l), t in l[0], t[1:] in l[0])\n", "3000 True False\n", ""})
	wantProg(t, prog{"t = (2 ** 4095,) * 999\nl = [{t} for i in range(500)]\nprint(len(l), t in l[0], t[1:] in l[0])\n", "500 True False\n", ""})
}
