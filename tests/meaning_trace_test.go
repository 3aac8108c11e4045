package tests

import (
	"fmt"
	"strings"
	"testing"

	"loop.example/g00009/impl"
)

// raiseProgs raise, with causes, contexts and texts of each kind.
func raiseProgs() []prog {
	return []prog{
		{"raise ValueError\n", "", "ValueError"},
		{"raise ValueError()\n", "", "ValueError"},
		{"raise ValueError('')\n", "", "ValueError"},
		{"raise ValueError('text')\n", "", "ValueError: text"},
		{"raise ValueError(None)\n", "", "ValueError: None"},
		{"raise ValueError(1, 'a')\n", "", "ValueError: (1, 'a')"},
		{"raise ValueError('', '')\n", "", "ValueError: ('', '')"},
		{"raise KeyError('k')\n", "", "KeyError: k"},
		{"raise BaseException(1.5)\n", "", "BaseException: 1.5"},
		{"raise StopIteration(5)\n", "", "StopIteration: 5"},
		{"class E(Exception): pass\nraise E([1, {'a': (2,)}])\n", "", "E: [1, {'a': (2,)}]"},
		{"class E(Exception):\n  def __init__(self, a): pass\n  def __str__(self): return 'no'\n  def __repr__(self): return 'no'\nraise E('arg')\n", "", "E: arg"},
		{"class E(Exception):\n  def __init__(self, a): pass\nraise E\n", "", "TypeError"},
		{"class A:\n  def __str__(self): return 'no'\n  def __repr__(self): return 'no'\nraise ValueError(A())\n", "", "ValueError: <A>"},
		{"class A:\n  def __repr__(self): return 'no'\nraise ValueError(A(), [A()], {A})\n", "", "ValueError: (<A>, [<A>], {<class A>})"},
		{"raise ValueError(KeyError('k'))\n", "", "ValueError: k"},
		{"raise ValueError(KeyError())\n", "", "ValueError"},
		{"raise ValueError(KeyError(1, 2))\n", "", "ValueError: (1, 2)"},
		{"raise ValueError([KeyError('k')], 5)\n", "", "ValueError: ([KeyError('k')], 5)"},
		{"class E(Exception):\n  def __str__(self): return 'no'\nraise ValueError(E('arg'), E(E(1)))\n", "", "ValueError: (E('arg'), E(E(1)))"},
		{"a = [1]\na.append(a)\nd = {1: a}\nd[2] = d\nraise ValueError(a, d)\n", "", "ValueError: ([1, [...]], {1: [1, [...]], 2: {...}})"},
		{"def f(): yield\nraise ValueError(f, f(), print, int, slice(1), range(2), iter([]), super(int, 1), NotImplemented, set(), lambda: 0)\n", "", "ValueError: (<function f>, <generator f>, <builtin print>, <class int>, slice(None, 1, None), range(0, 2, 1), <iterator>, <super>, NotImplemented, set(), <function <lambda>>)"},
		{"raise 5\n", "", "TypeError"},
		{"raise int\n", "", "TypeError"},
		{"raise None\n", "", "TypeError"},
		{"class A: pass\nraise A\n", "", "TypeError"},
		{"class A:\n  def __init__(self): print('called')\nraise A\n", "", "TypeError"},
		{"raise\n", "", "RuntimeError"},
		{"try: 1 / 0\nfinally: raise\n", "", "RuntimeError"},
		{"try:\n  try: 1 / 0\n  except ZeroDivisionError: pass\n  raise\nexcept RuntimeError: print('none is handled')\n", "none is handled\n", ""},
		{"try: 1 / 0\nexcept ZeroDivisionError: raise\n", "", "ZeroDivisionError"},
		{"def f(): raise\ntry: raise KeyError(1)\nexcept KeyError:\n  try: f()\n  except KeyError as e: print(e, e.__context__)\n", "1 None\n", ""},
		{"try: raise KeyError(1)\nexcept KeyError:\n  try: raise ValueError(2)\n  except ValueError: pass\n  raise\n", "", "KeyError: 1"},
		{"try: raise KeyError(1)\nexcept KeyError as e:\n  try: raise ValueError(2)\n  except ValueError as f:\n    print(f.__context__ is e, e.__context__, f.__cause__)\n    raise\n", "True None None\n", "ValueError: 2"},
		{"try:\n  try: 1 / 0\n  except ZeroDivisionError as e: raise KeyError(1) from e\nexcept KeyError as k: print(repr(k.__cause__), k.__cause__ is k.__context__)\n", "ZeroDivisionError() True\n", ""},
		{"try: raise KeyError(1) from ValueError\nexcept KeyError as k: print(repr(k.__cause__), k.__context__)\n", "ValueError() None\n", ""},
		{"try:\n  try: 1 / 0\n  except ZeroDivisionError: raise KeyError(1) from None\nexcept KeyError as k: print(k.__cause__, repr(k.__context__))\n", "None ZeroDivisionError()\n", ""},
		{"raise KeyError from 5\n", "", "TypeError"},
		{"raise KeyError from int\n", "", "TypeError"},
		{"raise 5 from 6\n", "", "TypeError"},
		{"e = KeyError(1)\ntry: raise e from e\nexcept KeyError as k: print(k.__cause__ is k, k.__context__)\n", "True None\n", ""},
		{"e = KeyError(1)\nf = ValueError(2)\ntry: raise e\nexcept KeyError:\n  try: raise f\n  except ValueError: pass\ntry: 1 / 0\nexcept ZeroDivisionError:\n  try: raise f\n  except ValueError: print(f.__context__ is e)\n", "True\n", ""},
		{"def f(): {}['k']\ntry: 1 / 0\nexcept ZeroDivisionError as z:\n  try: f()\n  except KeyError as k: print(k.__context__ is z)\n", "True\n", ""},
		{"def g():\n  try: 1 / 0\n  except ZeroDivisionError:\n    yield 1\n    yield 2\n    [][0]\ni = g()\nnext(i)\ntry: {}['k']\nexcept KeyError as e: print(e.__context__)\ntry: raise ValueError\nexcept ValueError:\n  next(i)\n  try: next(i)\n  except IndexError as e: print(repr(e.__context__), repr(e.__context__.__context__))\n", "None\nZeroDivisionError() None\n", ""},
		{"def g():\n  yield\n  [][0]\ni = g()\nnext(i)\ntry: raise ValueError\nexcept ValueError:\n  try: next(i)\n  except IndexError as e: print(repr(e.__context__))\n", "ValueError()\n", ""},
		{"try: 1 / 0\nexcept missing: pass\n", "", "NameError"},
		{"try:\n  try: 1 / 0\n  except missing: pass\nexcept NameError as e: print(e.__context__)\n", "None\n", ""},
		{"class M:\n  def __enter__(self): pass\n  def __exit__(self, *a): {}['k']\ntry:\n  with M(): 1 / 0\nexcept KeyError as e: print(e.__context__)\n", "None\n", ""},
		{"try:\n  try: assert 0, 'why'\n  except AssertionError as e: raise e\nexcept AssertionError as f: print(f.args)\n", "('why',)\n", ""},
	}
}

func TestP15Raise(t *testing.T) { wantProgs(t, raiseProgs()) }

// traceTold is a trace as a text: NAME LINE, parted by commas.
func traceTold(trace []impl.Spot) string {
	words := []string{}
	for _, s := range trace {
		words = append(words, fmt.Sprint(s.Name, " ", s.Line))
	}
	return strings.Join(words, ", ")
}

func TestP15Traces(t *testing.T) {
	for _, c := range []struct{ src, trace string }{
		{"1 / 0", "<module> 1"},
		{"\n\n1 / 0", "<module> 3"},
		{"x = [\n  1,\n  1 / 0]", "<module> 1"},
		{"def f():\n  pass\n  1 / 0\nf()", "f 3, <module> 4"},
		{"def f():\n  g()\ndef g():\n  h()\ndef h(): 1 / 0\nf()", "h 5, g 4, f 2, <module> 6"},
		{"def f(): g(); 1\ndef g():\n  if 1:\n    for i in (1,):\n      while 1:\n        1 / 0\nf()", "g 6, f 1, <module> 7"},
		{"f = lambda: 1 / 0\ng = lambda: (\n  f())\n\ng()", "<lambda> 1, <lambda> 2, <module> 5"},
		{"x = [1 / i\n  for i in [0]]", "<comp> 1, <module> 1"},
		{"x = 5\nx = [\n  {1 / 0 for j in (1,)}\n  for i in [0]]", "<comp> 3, <comp> 2, <module> 2"},
		{"x = {i: 1 / 0 for i in [0]}", "<comp> 1, <module> 1"},
		{"x = [i for i in 1 / 0]", "<module> 1"},
		{"x = [i for i in 5]", "<module> 1"},
		{"x = [i for j in [1] for i in 5]", "<comp> 1, <module> 1"},
		{"g = (1 / i\n  for i in [0])\nfor x in g:\n  pass", "<gen> 1, <module> 3"},
		{"def g():\n  yield 1\n  1 / 0\ndef f():\n  for x in g():\n    pass\nf()", "g 3, f 6, <module> 7"},
		{"def g():\n  yield 1\ni = g()\nnext(i)\ni.throw(KeyError)", "g 2, <module> 5"},
		{"def g():\n  yield 1\ni = g()\ni.throw(KeyError)", "<module> 4"},
		{"def g():\n  yield 1\ni = g()\nlist(i)\ni.throw(KeyError)", "<module> 5"},
		{"def g():\n  yield 1\ni = g()\nnext(i)\nnext(i)", "<module> 5"},
		{"def g():\n  yield 1\n  raise StopIteration\ni = g()\nlist(i)", "<module> 5"},
		{"def g():\n  yield from h()\ndef h():\n  yield\n  1 / 0\nlist(g())", "h 5, g 2, <module> 6"},
		{"def g():\n  i.send(1)\n  yield\ni = g()\nnext(i)", "g 2, <module> 5"},
		{"class A:\n  x = 1\n  1 / 0", "A 3, <module> 1"},
		{"class A:\n  class B:\n    1 / 0", "B 3, A 2, <module> 1"},
		{"class A:\n  def __init__(self):\n    1 / 0\nA()", "__init__ 3, <module> 4"},
		{"class A:\n  def __repr__(self): 1 / 0\nprint([[A()]])", "__repr__ 2, <module> 3"},
		{"class A:\n  def __eq__(self, o): 1 / 0\n[1, A()] == [1, 2]", "__eq__ 2, <module> 3"},
		{"class A:\n  def __add__(self, o): 1 / 0\nx = 5\nA() + 1", "__add__ 2, <module> 4"},
		{"class A:\n  x = property(lambda s: 1 / 0)\nA().x", "<lambda> 2, <module> 3"},
		{"def f(a): pass\nf()", "<module> 2"},
		{"def f(a=1 / 0): pass", "<module> 1"},
		{"@f\ndef g(): pass", "<module> 2"},
		{"def k(x): 1 / 0\nx = 1\nsorted([1, 2],\n key=k)", "k 1, <module> 3"},
		{"import m\n# module m\nx = 1\nimport n\n# module n\n\ndef f(): 1 / 0\nf()", "f 2, <module> 3, <module> 2, <module> 1"},
		{"try:\n  1 / 0\nexcept KeyError: pass", "<module> 2"},
		{"try:\n  1 / 0\nexcept ZeroDivisionError:\n  pass\n  raise", "<module> 5"},
		{"def f():\n  1 / 0\ntry: f()\nexcept ZeroDivisionError as e:\n  pass\n  raise", "f 2, <module> 6"},
		{"def f():\n  1 / 0\ndef g():\n  try: f()\n  except ZeroDivisionError:\n    raise\ng()", "f 2, g 6, <module> 7"},
		{"def f(): 1 / 0\ntry: f()\nexcept ZeroDivisionError as e: x = e\ndef g():\n  raise x\ng()", "f 1, g 5, <module> 6"},
		{"def f(): 1 / 0\ntry: f()\nexcept ZeroDivisionError as e:\n  raise KeyError from e", "<module> 4"},
		{"try: 1 / 0\nfinally:\n  pass\n  pass", "<module> 4"},
		{"def f():\n  try: 1 / 0\n  finally:\n    x = 1\nf()", "f 4, <module> 5"},
		{"i = 2\nwhile 1 / i:\n  i -= 1\n  pass", "<module> 4"},
		{"for x in (1, 0):\n  1 / x", "<module> 2"},
		{"if 0: pass\nelif 1 / 0: pass", "<module> 2"},
		{"class M:\n  def __enter__(self): pass\n  def __exit__(self, *a): pass\nwith M():\n  1 / 0", "<module> 5"},
		{"class M:\n  def __enter__(self): pass\n  def __exit__(self, *a):\n    1 / 0\nwith M():\n  pass\n  pass", "__exit__ 4, <module> 7"},
		{"class N:\n  def __iter__(self): return self\n  def __next__(self): raise StopIteration(5)\nnext(N())", "<module> 4"},
		{"match 1:\n  case 2: pass\n  case x if 1 / 0: pass", "<module> 1"},
		{"def f(n):\n  if n: f(n - 1)\n  1 / 0\nf(3)", "f 3, f 2, f 2, f 2, <module> 4"},
		{"x = [i for i in range(3)]; y = x[5]\nz = 1", "<module> 1"},
	} {
		o := meant(c.src)
		if got := traceTold(o.Trace); o.Code != impl.OutRaised || got != c.trace {
			t.Errorf("%s\n has %s\n not %s\n%s", c.src, got, c.trace, outTold(o))
		}
	}
}

func TestP15Longest(t *testing.T) {
	for n := range 60 {
		src := fmt.Sprintf("def f(n):\n  if n > 1: f(n - 1)\n  else: 1 / 0\nf(%d)\n", n+1)
		o := meant(src)
		want := min(n+2, impl.MaxTrace)
		exc := "ZeroDivisionError"
		if n+2 > impl.MaxCalls {
			exc = "RecursionError"
		}
		if len(o.Trace) != want || o.Exc != exc {
			t.Errorf("%d calls: %s", n+1, outTold(o))
		}
		if want < impl.MaxTrace && o.Trace[want-1] != (impl.Spot{Name: "<module>", Line: 4}) || o.Trace[0].Name != "f" {
			t.Errorf("%d calls: %s", n+1, outTold(o))
		}
	}
	again := meant("def f(n):\n  if n: f(n - 1)\n  else: raise e\ne = KeyError(1)\nfor i in range(3):\n  try: f(5)\n  except KeyError: pass\nf(30)\n")
	if len(again.Trace) != impl.MaxTrace || traceTold(again.Trace[:7]) != "f 3, f 2, f 2, f 2, f 2, f 2, f 3" {
		t.Error(outTold(again))
	}
}
