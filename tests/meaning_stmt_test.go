package tests

import "testing"

// stmtProgs have every kind of statement but those of the tables beside.
func stmtProgs() []prog {
	return []prog{
		{"", "", ""},
		{"pass; pass\n", "", ""},
		{"'a'; print(1); 2\n", "1\n", ""},
		{"a = b = c = [1]\nprint(a is b is c)\n", "True\n", ""},
		{"a, b = 1, 2\na, b = b, a\nprint(a, b)\n[c, d] = 'xy'\nprint(c, d)\n(e), (f, (g, h)) = 1, (2, [3, 4])\nprint(e, f, g, h)\n", "2 1\nx y\n1 2 3 4\n", ""},
		{"a, *b = 1,\nprint(a, b)\n*a, b = 'abc'\nprint(a, b)\na, *b, c = range(5)\nprint(a, b, c)\n*a, = ()\nprint(a)\n[a, *[b, c]] = 1, 2, 3\nprint(a, b, c)\n", "1 []\n['a', 'b'] c\n0 [1, 2, 3] 4\n[]\n1 2 3\n", ""},
		{"() = []\n[] = ''\n() = 1,\n", "", "ValueError"},
		{"a, b = 1, 2, 3\n", "", "ValueError"},
		{"a, b = 1,\n", "", "ValueError"},
		{"a, *b, c = 1,\n", "", "ValueError"},
		{"a, b = 5\n", "", "TypeError"},
		{"a, = None\n", "", "TypeError"},
		{"def g():\n  yield 1\n  print('asked on')\n  yield 2\n  print('to the end')\n  yield 3\na, b = g()\n", "asked on\nto the end\n", "ValueError"},
		{"a = 1\ntry: a, b[0] = 5, 6\nexcept NameError: print(a)\n", "5\n", ""},
		{"if 0: print(1)\nelif []: print(2)\nelif 3: print(3)\nelse: print(4)\nif 0: pass\nelse: print(5)\nif 1: print(6)\nif 0: print(7)\n", "3\n5\n6\n", ""},
		{"n = 0\nwhile n < 5:\n  n += 1\n  if n == 2: continue\n  if n == 4: break\n  print(n)\nelse: print('else')\nprint('end', n)\n", "1\n3\nend 4\n", ""},
		{"n = 0\nwhile n < 2: n += 1\nelse: print('else', n)\nwhile 0: pass\nelse: print('at once')\n", "else 2\nat once\n", ""},
		{"for i in 'ab':\n  for j in range(3):\n    if j == 1: continue\n    if i == 'b': break\n    print(i, j)\n  else: print('inner', i)\nelse: print('outer')\nprint(i, j)\n", "a 0\na 2\ninner a\nouter\nb 0\n", ""},
		{"for i in range(3):\n  if i == 1: break\nelse: print('no')\nfor x, in [[1], [2]]: print(x)\nfor a, *b in ('abc', 'd'): print(a, b)\nd = {}\nfor d['k'] in (1, 2): pass\nprint(d)\n", "1\n2\na ['b', 'c']\nd []\n{'k': 2}\n", ""},
		{"for i in range(2):\n  for j in range(2):\n    pass\n  else: continue\n  print('never')\nfor i in (): pass\nelse:\n  for j in (1,):\n    break\n  print('on')\n", "on\n", ""},
		{"for i in 5: pass\n", "", "TypeError"},
		{"for x in [1, 2, 3]: print(x, end='')\nfor x in (): print('no')\nfor x in {1: 2, 3: 4}: print(x, end='')\nfor x in {5, 6}: print(x, end='')\nfor x in 'a\\u00e9': print(x, end='')\nfor x in range(5, 1, -2): print(x, end='')\nprint()\n", "1231356aé53\n", ""},
		{"a = [1, 2]\nfor x in a:\n  if x < 4: a.append(x + 2)\nprint(a)\nfor x in a: a.pop()\nprint(a)\n", "[1, 2, 3, 4, 5]\n[1, 2]\n", ""},
		{"a = [1]\ni = iter(a)\nprint(next(i), next(i, 'end'))\na.append(2)\nprint(next(i, 'stays'), list(i))\n", "1 end\nstays []\n", ""},
		{"d = {1: 1}\nfor k in d: d[k] = 5\nprint(d)\nfor k in d: d[k + 1] = 0\n", "{1: 5}\n", "RuntimeError"},
		{"d = {1: 1, 2: 2}\nfor k in d: del d[k]\n", "", "RuntimeError"},
		{"s = {1}\nfor k in s: s.add(k + 1)\n", "", "RuntimeError"},
		{"s = {1, 2}\ni = iter(s)\nprint(next(i))\ns.add(3)\ntry: next(i)\nexcept RuntimeError: print('changed')\ns.discard(3)\nprint(next(i), next(i, 'end'))\ns.add(4)\nprint(next(i, 'stays'))\n", "1\nchanged\n2 end\nstays\n", ""},
		{"d = {1: 1}\ni = iter(d)\nd[2] = 2\nnext(i)\n", "", "RuntimeError"},
		{"a = [1]\na.extend(x for x in a)\na += (x for x in a)\nprint(a)\n", "[1, 1, 1, 1]\n", ""},
		{"assert 1\nassert [0], 1 / 0\nassert 0\n", "", "AssertionError"},
		{"assert [], 'why'\n", "", "AssertionError: why"},
		{"assert 0, (1, 2)\n", "", "AssertionError: (1, 2)"},
		{"x = [0, 1]\ni = 0\ni, x[i] = 1, 5\nprint(i, x)\n", "1 [0, 5]\n", ""},
		{"global x\nx = 1\ndef f():\n  def g():\n    nonlocal y\n    y = 2\n  y = 1\n  g()\n  return y\nprint(x, f())\n", "1 2\n", ""},
		{"def f():\n  for i in range(3):\n    while True:\n      if i == 1: return i\n      break\nprint(f())\n", "1\n", ""},
		{"def f(x):\n  if x: return 'yes'\nprint(f(1), f(0))\n", "yes None\n", ""},
		{"x = 5; del x; x = 6; print(x)\na = [1, 2, 3]\nd = {1: 2}\ndel a[0], (d[1], [a[0]])\nprint(a, d)\n", "6\n[3] {}\n", ""},
		{"class A: pass\na = A()\na.x = 1\na.y = [1]\na.x += 2\na.y[0] += 3\na.y += [4]\nprint(a.x, a.y)\na.z += 1\n", "3 [4, 4]\n", "AttributeError"},
		{"d = {}\nd['x'] += 1\n", "", "KeyError: x"},
		{"print(__name__)\n__name__ = 5\nprint(__name__)\ndel __name__\nprint(__name__)\n", "__main__\n5\n", "NameError"},
	}
}

func matchProgs() []prog {
	subjects := "for x in (0, -1, 1.5, 'a', None, True, (1, 2), [1, 2, 3], {'k': 1}, {'k': 2, 'l': 3}, [], ()):\n  match x:\n"
	return []prog{
		{subjects + "    case 0: print('zero', end=' ')\n    case -1: print('minus', end=' ')\n    case 1.5: print('float', end=' ')\n    case 'a': print('text', end=' ')\n    case None: print('none', end=' ')\n    case True: print('true', end=' ')\n    case [a, b]: print('two', a, b, end=' ')\n    case [1, *r]: print('one', r, end=' ')\n    case {'k': 1}: print('k1', end=' ')\n    case {'k': v, **r}: print('k', v, r, end=' ')\n    case []: print('empty', end=' ')\n",
			"zero minus float text none true two 1 2 one [2, 3] k1 k 2 {'l': 3} empty empty ", ""},
		{"match 1:\n  case True: print('true')\n  case 1.0: print('equal')\nmatch False:\n  case 0: print('zero')\nmatch 0:\n  case False: print('no')\n  case None: print('no')\n  case _: print('any')\n", "equal\nzero\nany\n", ""},
		{"match 'ab':\n  case [a, b]: print('no')\n  case str(s): print(s)\nmatch {1: 2}:\n  case [x]: print('no')\n  case {}: print('dict')\nmatch [1]:\n  case {}: print('no')\n  case (1,): print('seq')\n", "ab\ndict\nseq\n", ""},
		{"match 5:\n  case 1 | 2: print('no')\n  case 4 | 5 as n: print(n)\nmatch [1, 2]:\n  case [1, x] | [x, 3]: print(x)\nmatch [9, 3]:\n  case [1, x] | [x, 3]: print(x)\nmatch (1, (2, 3)):\n  case (a, (b, c) as d) as e: print(a, b, c, d, e)\n", "5\n2\n9\n1 2 3 (2, 3) (1, (2, 3))\n", ""},
		{"x = 'old'\nmatch [1, 2]:\n  case [x, 3]: print('no')\n  case [1, y] if y > 5: print('no')\n  case z: print(x, y, z)\n", "old 2 [1, 2]\n", ""},
		{"match 3:\n  case 1: print('no')\nprint('on')\nmatch 3:\n  case x if 0: print('no')\n  case x if x: print(x)\n", "on\n3\n", ""},
		{"match [1, 2, 3, 4]:\n  case [a, *m, z]: print(a, m, z)\nmatch [1]:\n  case [a, *_, z]: print('no')\n  case [*all]: print(all)\nmatch 1, 2:\n  case a, *_: print(a)\nmatch 1,:\n  case *a, b: print(a, b)\n", "1 [2, 3] 4\n[1]\n1\n[] 1\n", ""},
		{"class K: v = 7\nclass M: k = K\nmatch 7:\n  case K.v: print('dotted')\nmatch 7:\n  case M.k.v: print('deep')\nmatch {7: 'seven', -1: 'm'}:\n  case {K.v: w, -1: u, **rest}: print(w, u, rest)\nmatch 7:\n  case K.nothing: pass\n", "dotted\ndeep\nseven m {}\n", "AttributeError"},
		{"match {'a': {'b': [1, {'c': 2}]}}:\n  case {'a': {'b': [_, {'c': n}]}}: print(n)\nmatch {'a': 1}:\n  case {'b': _}: print('no')\n  case {'a': 2}: print('no')\n  case {'a': 1, **r}: print(r)\n", "2\n{}\n", ""},
		{"L = [1]\nclass N: l = L\nmatch {1: 2}:\n  case {N.l: x}: pass\n", "", "TypeError"},
		{"class P:\n  __match_args__ = ('x', 'y')\n  def __init__(self, x, y):\n    self.x = x\n    self.y = y\nmatch P(1, 2):\n  case P(0, _): print('no')\n  case P(1, y=3): print('no')\n  case P(a, y=b): print(a, b)\nmatch P(3, 4):\n  case P(x, y): print(x, y)\nmatch P(5, 6):\n  case P(z=_): print('no')\n  case P(): print('bare')\nmatch 5:\n  case P(): print('no')\n  case _: print('other')\nmatch P(1, 2):\n  case P(1, 2, 3): pass\n", "1 2\n3 4\nbare\nother\n", "TypeError"},
		{"class P: pass\nmatch P():\n  case P(1): pass\n", "", "TypeError"},
		{"class P: __match_args__ = (5,)\nmatch P():\n  case P(1): pass\n", "", "TypeError"},
		{"class P: __match_args__ = 5\nmatch P():\n  case P(1): pass\n", "", "TypeError"},
		{"class P:\n  __match_args__ = ('a',)\n  @property\n  def a(self): raise AttributeError\n  @property\n  def b(self): raise ValueError('b')\nmatch P():\n  case P(_): print('no')\n  case P(a=_): print('no')\n  case P(b=_): print('no')\n", "", "ValueError: b"},
		{"x = 5\nmatch 5:\n  case x(): pass\n", "", "TypeError"},
		{"for v in (True, 1, 1.5, 'a', (1,), [1], {1: 2}, {1}):\n  match v:\n    case bool(b): print('bool', b)\n    case int(i): print('int', i)\n    case float(f): print('float', f)\n    case str(s): print('str', s)\n    case tuple(t): print('tuple', t)\n    case list(l): print('list', l)\n    case dict(d): print('dict', d)\n    case set(s): print('set', s)\n", "bool True\nint 1\nfloat 1.5\nstr a\ntuple (1,)\nlist [1]\ndict {1: 2}\nset {1}\n", ""},
		{"match True:\n  case int(x): print(x)\nmatch 1:\n  case bool(): print('no')\n  case object(): print('object')\nmatch 1:\n  case int(1, 2): pass\n", "True\nobject\n", "TypeError"},
		{"match range(3):\n  case range(x): pass\n", "", "TypeError"},
		{"match ValueError(1, 2):\n  case LookupError(): print('no')\n  case Exception(args=(a, b)): print(a, b)\n", "1 2\n", ""},
		{"class Q:\n  def __eq__(self, o):\n    print('eq', o)\n    return o == 2\nmatch Q():\n  case 1: print('no')\n  case None: print('no')\n  case 2: print('two')\n", "eq 1\neq 2\ntwo\n", ""},
		{"def f(x):\n  match x:\n    case 1: return 'one'\n    case [*_]: return 'list'\n  return 'none'\nprint(f(1), f([]), f(2))\nfor i in (1, 2, 3):\n  match i:\n    case 1: continue\n    case 2: break\n  print('no')\n", "one list none\n", ""},
		{"def f():\n  match [1, {'a': 2}]:\n    case [a, {'a': b, **c} as d]:\n      def g(): return a, b, c, d\n      return g()\nprint(f())\nclass C:\n  match 5:\n    case n: pass\nprint(C.n)\n", "(1, 2, {}, {'a': 2})\n5\n", ""},
		{"match 1 / 0:\n  case _: pass\n", "", "ZeroDivisionError"},
	}
}

func importProgs() []prog {
	return []prog{
		{"import m\nprint(m.v, m.__name__, __name__)\n# module m\nv = 7\nprint('m is', __name__)\n", "m is m\n7 m __main__\n", ""},
		{"import m as n\nfrom m import v, w as u\nprint(n.v, v, u)\nimport m\nprint(m is n)\n# module m\nprint('once')\nv, w = 1, 2\n", "once\n1 1 2\nTrue\n", ""},
		{"import m\n", "", "ImportError"},
		{"from m import v\n", "", "ImportError"},
		{"from m import v, w, x\n# module m\nv = x = 1\n", "", "ImportError"},
		{"try: from m import v, w, x\nexcept ImportError: print(v)\nx\n# module m\nv = x = 1\n", "1\n", "NameError"},
		{"from m import __name__ as n\nprint(n)\nfrom m import print\n# module m\npass\n", "m\n", "ImportError"},
		{"import a\nprint('main', a.x, a.b.y)\n# module a\nprint('a begins')\nimport b\nx = b.y + 1\nprint('a ends')\n# module b\nprint('b begins')\nimport a\nprint(hasattr(a, 'x'))\ny = 1\nprint('b ends')\n", "a begins\nb begins\nFalse\nb ends\na ends\nmain 2 1\n", ""},
		{"import a\n# module a\nfrom b import y\nx = 1\n# module b\nfrom a import x\ny = 1\n", "", "ImportError"},
		{"for i in range(2):\n  try: import m\n  except ValueError as e: print('caught', e)\nm\n# module m\nprint('runs')\nraise ValueError('v')\n", "runs\ncaught v\nruns\ncaught v\n", "NameError"},
		{"import m\n# module m\nimport n\n# module n\n1 / 0\n", "", "ZeroDivisionError"},
		{"x = 'main'\nimport m\nprint(m.f(), x)\nm.x = 'new'\nprint(m.f())\n# module m\nx = 'm'\ndef f():\n  return x\n", "m main\nnew\n", ""},
		{"import main\nprint(main.__name__)\nmain.x\n", "__main__\n", "AttributeError"},
		{"x = 5\nimport main\nprint(main.__name__, main.x, main is main)\nmain.x = 6\nprint(x)\n", "__main__ 5 True\n6\n", ""},
		{"import m\nprint(m.main.x)\n# module m\nimport main\nmain.x = 8\n", "8\n", ""},
		{"import __main__\n", "", "ImportError"},
		{"def f():\n  import m\n  from m import v\n  return m.v + v\nprint(f())\nm\n# module m\nv = 3\n", "6\n", "NameError"},
		{"import m\nprint(m.g())\n# module m\ndef g(): return len('abc')\nlen = lambda s: 'own'\n", "own\n", ""},
		{"len = 5\nimport m\nprint(m.g())\n# module m\ndef g(): return len('abc')\n", "3\n", ""},
		{"import m\ndel m.v\nfrom m import v\n# module m\nv = 1\n", "", "ImportError"},
	}
}

func TestP10Statements(t *testing.T) { wantProgs(t, stmtProgs()) }

func TestP10Match(t *testing.T) { wantProgs(t, matchProgs()) }

func TestP10Imports(t *testing.T) { wantProgs(t, importProgs()) }
