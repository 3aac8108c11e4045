package tests

import "testing"

const attrClasses = `
class Both:
  def __get__(self, a, c): return ('get', a is not None, c.__name__)
  def __set__(self, a, v): print('set', v)
class Get:
  def __get__(self, a, c): return ('get', c.__name__)
class Set:
  def __set__(self, a, v): print('set', v)
class A:
  plain = 1
  text = 'a'
  both = Both()
  get = Get()
  set = Set()
  built = print
  def f(self): return 'f'
  @property
  def p(self): return ('p', self.own)
  @p.setter
  def p(self, v): self.own = v
  no = property()
  only = property(lambda self: 5)
  write = property(set=lambda self, v: print('written', v))
  @staticmethod
  def s(x): return ('s', x)
  @classmethod
  def c(cls, x): return (cls.__name__, x)
class B(A):
  plain = 2
class G(A):
  def __getattr__(self, name):
    if name == 'bad': raise ValueError(name)
    return ('getattr', name)
class W(Exception): seen = 1
a = A()
a.own = 7
b = B()
g = G()
def fn(x): return x
e = W(1, 2)
`

const attrRows = `
(a.plain, b.plain, A.plain, a.own) => (1, 2, 1, 7)
a.nothing => !AttributeError
A.nothing => !AttributeError
A.own => !AttributeError
a.f() => 'f'
A.f(a) => 'f'
A.f() => !TypeError
a.f is a.f => False
a.both => ('get', True, 'A')
b.get => ('get', 'B')
type(A.both).__name__ => 'Both'
type(a.set).__name__ => 'Set'
a.built => <builtin print>
a.p => ('p', 7)
b.p => !AttributeError
A.p => <property>
a.no => !AttributeError
a.only => 5
a.write => !AttributeError
(a.s(1), A.s(2)) => (('s', 1), ('s', 2))
(a.c(1), b.c(2), B.c(3)) => (('A', 1), ('B', 2), ('B', 3))
(g.x, g.plain, g.f()) => (('getattr', 'x'), 1, 'f')
g.bad => !ValueError: bad
g.no => !AttributeError
(A.__name__, int.__name__, type(e).__name__, KeyError.__name__) => ('A', 'int', 'W', 'KeyError')
a.__name__ => !AttributeError
(fn.__name__, (lambda: 0).__name__) => ('fn', '<lambda>')
a.f.__name__ => !AttributeError
print.__name__ => !AttributeError
fn.x => !AttributeError
(1).real => !AttributeError
None.x => !AttributeError
(slice(1, 2, 3).start, slice(1, 2, 3).stop, slice(1, 2, 3).step, slice(4).start) => (1, 2, 3, None)
slice(1).other => !AttributeError
range(3).start => !AttributeError
(e.args, e.__cause__, e.__context__, e.seen) => ((1, 2), None, None, 1)
e.args is e.args => False
e.value => !AttributeError
(StopIteration(5, 6).value, StopIteration().value) => (5, None)
str.upper => !AttributeError
[].nothing => !AttributeError
iter([]).send => !AttributeError
super(B, b).plain => 1
super(B, b).f() => 'f'
super(B, b).c(4) => ('B', 4)
super(B, B).c(5) => ('B', 5)
super(B, B).f => <function f>
super(B, B).p => <property>
super(B, a) => !TypeError
super(B, A) => !TypeError
super(5, a) => !TypeError
super(A, a).f => !AttributeError
super(A, B).s(1) => !AttributeError
super(object, a).f => !AttributeError
super(type, A).f => !AttributeError
super(int, True).f => !AttributeError
property().setter(fn).x => !AttributeError
(hasattr(a, 'own'), hasattr(a, 'nothing'), hasattr(b, 'p'), hasattr(1, 'x')) => (True, False, False, False)
hasattr(g, 'bad') => !ValueError: bad
(getattr(a, 'own'), getattr(a, 'zz', 9), getattr(b, 'p', 8)) => (7, 9, 8)
getattr(a, 'zz') => !AttributeError
getattr(g, 'bad', 1) => !ValueError: bad
`

func attrProgs() []prog {
	return append(rowsOf(attrClasses, attrRows), []prog{
		{attrClasses + "a.both = 1\na.set = 2\na.get = 3\na.p = 4\na.plain = 5\na.f = 6\nprint(a.both, type(a.set).__name__, a.get, a.own, a.plain, A.plain, a.f)\na.write = 8\na.only = 9\n",
			"set 1\nset 2\n('get', True, 'A') Set 3 4 5 1 6\nwritten 8\n", "AttributeError"},
		{attrClasses + "del a.own\nprint(hasattr(a, 'own'))\ndel a.plain\n", "False\n", "AttributeError"},
		{attrClasses + "del a.p\n", "", "AttributeError"},
		{attrClasses + "A.plain = 3\nprint(a.plain, b.plain)\ndel B.plain\nprint(b.plain)\nA.new = lambda self: 'new'\nprint(b.new())\ndel B.plain\n", "3 2\n3\nnew\n", "AttributeError"},
		{"int.x = 1\n", "", "TypeError"},
		{"del ValueError.x\n", "", "TypeError"},
		{"def f(): pass\nf.x = 1\n", "", "AttributeError"},
		{"def f(): pass\ndel f.__name__\n", "", "AttributeError"},
		{"[].x = 1\n", "", "AttributeError"},
		{"x = 5\ndel x.y\n", "", "AttributeError"},
		{"e = ValueError(1)\ne.note = 2\nprint(e.note)\ndel e.note\ne.args = 3\n", "2\n", "AttributeError"},
		{"e = ValueError(1)\ne.__cause__ = None\n", "", "AttributeError"},
		{"e = ValueError(1)\ne.__context__ = None\n", "", "AttributeError"},
		{"e = ValueError(1)\ndel e.args\n", "", "AttributeError"},
		{"e = StopIteration(1)\ne.value = 5\nprint(e.value, e.args)\ndel e.value\nprint(e.value)\n", "5 (1,)\n1\n", ""},
		{"class E(Exception):\n  args = 5\n  value = 6\n  def __init__(self, *a): self.a = a\nprint(E(1).args, E(1).value, E(1).a, E.args)\n", "(1,) 6 (1,) 5\n", ""},
		{"import m\nm.x = 5\nprint(m.x, m.__name__, m.f())\ndel m.x\nprint(hasattr(m, 'x'))\ndel m.y\n# module m\ndef f(): return x\n", "5 m 5\nFalse\n", "AttributeError"},
		{"o = object()\no.x = 1\nprint(o.x)\n", "1\n", ""},
		{"class A: pass\na = A()\na.__len__ = lambda: 5\na.__call__ = lambda: 6\nprint(a.__len__())\na()\n", "5\n", "TypeError"},
		{"class A:\n  def __getattr__(self, n): return lambda *a: 5\na = A()\nprint(a.__len__())\nlen(a)\n", "5\n", "TypeError"},
		{"class P:\n  def __init__(self): self.log = []\n  @property\n  def x(self): return self.log\n  x = x.setter(lambda self, v: self.log.append(v))\np = P()\np.x = 1\np.x += [2]\nprint(p.log)\n", "[1, 2, [...]]\n", ""},
		{"class D:\n  def __get__(self, a, c): return self.v\nclass A: pass\nA.d = D()\nA.d.v = 3\nprint(A().d)\nA.d.v = 4\nprint(A().d)\n", "3\n4\n", ""},
		{"class D:\n  def __get__(self, a, c): return 'got'\nclass S(D):\n  def __set__(self, a, v): pass\nclass A: pass\na = A()\na.x = a.y = a.z = a.f = 'own'\nA.x = property(lambda self: 'property')\nA.y = S()\nA.z = D()\nA.f = lambda self: 'f'\nprint(a.x, a.y, a.z, a.f)\n", "property got own own\n", ""},
		{"class A: pass\nA.__call__ = A()\nA()()\n", "", "RecursionError"},
		{"class D: pass\nD.__get__ = D()\nclass A: x = D()\nA().x\n", "", "RecursionError"},
		{"class A:\n  @classmethod\n  def make(cls): return cls()\n  @staticmethod\n  def two(): return 2\n  both = classmethod(staticmethod(5))\nclass B(A): pass\nprint(B.make(), B().make(), A.two(), A.both)\nA.both()\n", "<B> <B> 2 <method staticmethod>\n", "TypeError"},
	}...)
}

const itemRows = `
('abc'[0], 'abc'[-1], 'a\u00e9c'[1], 'abc'[True]) => ('a', 'c', 'é', 'b')
((1, 2)[0], (1, 2)[-2], [1, 2][1], [1, 2][False]) => (1, 1, 2, 1)
(range(5)[1], range(5)[-1], range(9, 0, -2)[2], range(5)[True]) => (1, 4, 5, 1)
{1: 'a'}[1.0] => 'a'
'abc'[3] => !IndexError
'abc'[-4] => !IndexError
[][0] => !IndexError
()[0] => !IndexError
[1][2 ** 70] => !IndexError
[1][-(2 ** 70)] => !IndexError
range(3)[3] => !IndexError
range(3)[-4] => !IndexError
{}['k'] => !KeyError: k
{}[(1, 2)] => !KeyError: (1, 2)
{}[[]] => !TypeError
[1]['a'] => !TypeError
[1][1.0] => !TypeError
[1][None] => !TypeError
'a'['a'] => !TypeError
range(3)[1:2] => !TypeError
{1: 2}[1:2] => !TypeError
{1}[0] => !TypeError
5[0] => !TypeError
None[0] => !TypeError
print[0] => !TypeError
int[0] => !TypeError
('abcdef'[1:4], 'abcdef'[::2], 'abcdef'[::-1], 'abcdef'[4:1:-1], 'abcdef'[9:], 'abc'[-2:]) => ('bcd', 'ace', 'fedcba', 'edc', '', 'bc')
((1, 2, 3)[1:], (1, 2, 3)[::-2], [1, 2, 3][:2], [1, 2, 3][None:None:None]) => ((2, 3), (3, 1), [1, 2], [1, 2, 3])
[1, 2, 3][-(2 ** 70):2 ** 70] => [1, 2, 3]
[1, 2, 3][::2 ** 70] => [1]
[1, 2, 3][::-(2 ** 70)] => [3]
[1, 2, 3][True:] => [2, 3]
'abc'[slice(1, 3)] => 'bc'
[1][::0] => !ValueError
'a'[::0] => !ValueError
[1]['a':] => !TypeError
[1][:1.5] => !TypeError
'a'[::'a'] => !TypeError
I()[5] => ('get', 5)
O()[5] => !TypeError
len('x' * 16384) => 16384
('x' * 16384)[-1] => 'x'
`

func itemProgs() []prog {
	return append(rowsOf("class I:\n  def __getitem__(self, i): return ('get', i)\nclass O: pass\n", itemRows), []prog{
		{"a = [1, 2, 3]\na[0] = 'x'\na[-1] = 'z'\na[True] = 'y'\nprint(a)\na[3] = 1\n", "['x', 'y', 'z']\n", "IndexError"},
		{"a = [1, 2, 3, 4]\na[1:3] = 'abc'\nprint(a)\na[1:1] = (9,)\nprint(a)\na[3:1] = [8]\nprint(a)\na[:] = []\nprint(a)\na[5:] = [1]\na[-9:0] = [0]\nprint(a)\n",
			"[1, 'a', 'b', 'c', 4]\n[1, 9, 'a', 'b', 'c', 4]\n[1, 9, 'a', 8, 'b', 'c', 4]\n[]\n[0, 1]\n", ""},
		{"a = [1, 2, 3, 4]\na[::2] = 'ab'\nprint(a)\na[::-1] = [1, 2, 3, 4]\nprint(a)\na[0:2:1] = [7]\nprint(a)\na[::2] = [1]\n", "['a', 2, 'b', 4]\n[4, 3, 2, 1]\n[7, 2, 1]\n", "ValueError"},
		{"a = [1, 2]\na[:] = a\na[1:1] = a\nprint(a)\n", "[1, 1, 2, 2]\n", ""},
		{"a = [1, 2]\na[0:1] = 5\n", "", "TypeError"},
		{"a = [1, 2]\na[::0] = 5\n", "", "ValueError"},
		{"a = [1, 2]\na['x':] = [5]\n", "", "TypeError"},
		{"a = [1, 2]\na['x'] = 5\n", "", "TypeError"},
		{"a = (1, 2)\na[0] = 5\n", "", "TypeError"},
		{"a = 'ab'\na[0] = 'c'\n", "", "TypeError"},
		{"a = {1}\na[0] = 'c'\n", "", "TypeError"},
		{"a = range(3)\ndel a[0]\n", "", "TypeError"},
		{"a = 'abc'\ndel a[0]\n", "", "TypeError"},
		{"a = [0, 1, 2, 3, 4, 5, 6]\ndel a[0], a[-1]\nprint(a)\ndel a[1:3]\nprint(a)\ndel a[::-2]\nprint(a)\ndel a[:]\nprint(a)\ndel a[0]\n", "[1, 2, 3, 4, 5]\n[1, 4, 5]\n[4]\n[]\n", "IndexError"},
		{"a = [0, 1, 2, 3, 4, 5]\ndel a[1::2]\nprint(a)\ndel a[::0]\n", "[0, 2, 4]\n", "ValueError"},
		{"d = {}\nd['a'] = 1\nd[2] = 3\nd['a'] = 5\nprint(d)\ndel d['a']\nd['a'] = 6\nprint(d)\ndel d['zz']\n", "{'a': 5, 2: 3}\n{2: 3, 'a': 6}\n", "KeyError: zz"},
		{"d = {}\nd[[]] = 1\n", "", "TypeError"},
		{"d = {}\ndel d[[]]\n", "", "TypeError"},
		{"class I:\n  def __setitem__(self, i, v): print('set', i, v)\n  def __delitem__(self, i): print('del', i)\ni = I()\ni[1] = 2\ni[1:2] = 3\ndel i[4]\ni[0]\n", "set 1 2\nset slice(1, 2, None) 3\ndel 4\n", "TypeError"},
		{"class O: pass\nO()[0] = 1\n", "", "TypeError"},
		{"class O: pass\ndel O()[0]\n", "", "TypeError"},
	}...)
}

func TestP10Attributes(t *testing.T) { wantProgs(t, attrProgs()) }

func TestP10Items(t *testing.T) { wantProgs(t, itemProgs()) }
