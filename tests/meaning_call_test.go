package tests

import "testing"

const callClasses = `
def none(): pass
def two(a, b): return (a, b)
def dflt(a, b=2, c=3): return (a, b, c)
def star(a, *b): return (a, b)
def only(*, k, l=5): return (k, l)
def keys(a, **k): return (a, k)
def all_(a, b=2, *c, d, e=5, **f): return (a, b, c, d, e, f)
class Call:
  def __call__(self, *a, **k): return (a, k)
class Init:
  def __init__(self, a, b=2): self.v = (a, b)
class Bad:
  def __init__(self): return 5
class Bare: pass
class E(Exception): pass
class EI(Exception):
  def __init__(self, a, k=1): self.v = (a, k)
`

const callRows = `
none() => None
none(1) => !TypeError
none(a=1) => !TypeError
two(1, 2) => (1, 2)
two(1, b=2) => (1, 2)
two(b=1, a=2) => (2, 1)
two(*[1, 2]) => (1, 2)
two(*'ab') => ('a', 'b')
two(1, *(2,)) => (1, 2)
two(**{'a': 1, 'b': 2}) => (1, 2)
two(1, **{'b': 2}) => (1, 2)
two(1) => !TypeError
two() => !TypeError
two(1, 2, 3) => !TypeError
two(1, 2, b=3) => !TypeError
two(1, a=3) => !TypeError
two(1, c=3) => !TypeError
two(1, 2, c=3) => !TypeError
two(1, b=2, **{'b': 3}) => !TypeError
two(1, **{2: 3}) => !TypeError
two(1, **[('b', 1)]) => !TypeError
two(*5) => !TypeError
(dflt(1), dflt(1, 5), dflt(1, c=5), dflt(c=1, a=2)) => ((1, 2, 3), (1, 5, 3), (1, 2, 5), (2, 2, 1))
dflt(b=1) => !TypeError
(star(1), star(1, 2, 3), star(*[1, 2], *[3])) => ((1, ()), (1, (2, 3)), (1, (2, 3)))
star() => !TypeError
star(1, b=2) => !TypeError
(only(k=1), only(l=2, k=1)) => ((1, 5), (1, 2))
only() => !TypeError
only(1) => !TypeError
(keys(1), keys(1, b=2, k=3), keys(a=1, z=2)) => ((1, {}), (1, {'b': 2, 'k': 3}), (1, {'z': 2}))
keys(1, a=2) => !TypeError
keys(b=2) => !TypeError
all_(1, d=4) => (1, 2, (), 4, 5, {})
all_(1, 2, 3, 4, d=5, e=6, g=7, c=8) => (1, 2, (3, 4), 5, 6, {'g': 7, 'c': 8})
all_(1, 2, 3) => !TypeError
all_(*range(5), **{'d': 1, 'x': 2}) => (0, 1, (2, 3, 4), 1, 5, {'x': 2})
Call()(1, 2, a=3) => ((1, 2), {'a': 3})
Init(1).v => (1, 2)
Init(b=1, a=0).v => (0, 1)
Init() => !TypeError
Bad() => !TypeError
Bare() => <Bare>
Bare(1) => !TypeError
Bare(a=1) => !TypeError
E(1, 'a').args => (1, 'a')
E(a=1) => !TypeError
(EI(1, 2).args, EI(1, k=2).args, EI(1, k=2).v) => ((1, 2), (1,), (1, 2))
EI() => !TypeError
object(1) => !TypeError
5() => !TypeError
None() => !TypeError
'a'() => !TypeError
[](1) => !TypeError
Bare()() => !TypeError
type(none)() => !TypeError
type(None)() => !TypeError
type(iter([]))() => !TypeError
property()() => !TypeError
staticmethod(none)() => !TypeError
[].append(1, 2) => !TypeError
`

func callProgs() []prog {
	return append(rowsOf(callClasses, callRows), []prog{
		{"x = 1\ndef f(a=x): return a\nx = 2\nprint(f())\n", "1\n", ""},
		{"def f(a=[]):\n  a.append(1)\n  return a\nf()\nprint(f())\n", "[1, 1]\n", ""},
		{"def f(n): return 1 if n < 2 else n * f(n - 1)\nprint(f(20))\n", "2432902008176640000\n", ""},
		{"def f():\n  n = 0\n  def g():\n    nonlocal n\n    n += 1\n    return n\n  return g\na = f()\nb = f()\na()\nprint(a(), b())\n", "2 1\n", ""},
		{"n = 0\ndef f():\n  global n, m\n  n += 1\n  m = 5\nf()\nprint(n, m)\n", "1 5\n", ""},
		{"def f():\n  print(x)\n  x = 1\nx = 2\nf()\n", "", "NameError"},
		{"def f():\n  def g(): return x\n  y = g\n  x = 3\n  return y()\nprint(f())\n", "3\n", ""},
		{"def f():\n  def g(): return x\n  g()\n  x = 3\nf()\n", "", "NameError"},
		{"def f():\n  x = 1\n  del x\n  x\nf()\n", "", "NameError"},
		{"def f():\n  x = 1\n  def g(): return x\n  del x\n  g()\nf()\n", "", "NameError"},
		{"x = 1\ndel x\nx\n", "", "NameError"},
		{"def f():\n  x = 1\n  del x\n  x = 2\n  return x\nprint(f())\n", "2\n", ""},
		{"def f():\n  if 0: x = 1\n  del x\nf()\n", "", "NameError"},
		{"def f():\n  x = 1\n  def g():\n    nonlocal x\n    del x\n  g()\n  print('cut')\n  g()\nf()\n", "cut\n", "NameError"},
		{"del print\n", "", "NameError"},
		{"print = 5\ndel print\nprint('back')\n", "back\n", ""},
		{"def f():\n  global g\n  del g\nf()\n", "", "NameError"},
		{"class C:\n  x = 1\n  del x\n  x\n", "", "NameError"},
		{"x = 'module'\nclass C:\n  print(x)\n  x = 'class'\n  print(x)\n  del x\n  print(x)\n  del x\n", "module\nclass\nmodule\n", "NameError"},
		{"def f():\n  x = 'function'\n  class C:\n    y = x\n    def g(self): return x\n  return C\nprint(f().y, f()().g())\n", "function function\n", ""},
		{"x = 1\ndef f():\n  x = 2\n  class C:\n    global x\n    x = 3\n  return x\nprint(f(), x)\n", "2 3\n", ""},
		{"def f(a, b):\n  a = 5\n  return a, b\nprint(f(1, 2))\n", "(5, 2)\n", ""},
		{"def f(*a, **k):\n  a += (3,)\n  k['z'] = 1\n  return a, k\nt = (1,)\nd = {'q': 2}\nprint(f(*t, **d), t, d)\n", "((1, 3), {'q': 2, 'z': 1}) (1,) {'q': 2}\n", ""},
		{"def f(): return\nprint(f())\n", "None\n", ""},
		{"m = [].append\nm(1)\na = [5]\nk = a.append\nk(6)\nk(v for v in 'x')\nprint(len(a))\n", "3\n", ""},
		{"class A:\n  def f(self, *a): return a\nm = A().f\nprint(m(1), (lambda g: g(2))(m))\n", "(1,) (2,)\n", ""},
		{"def deco(n): return lambda f: lambda *a: (n, f(*a))\n@deco(1)\n@deco(2)\ndef f(x): return x\nprint(f(5))\n", "(1, (2, 5))\n", ""},
	}...)
}

func classProgs() []prog {
	return []prog{
		{"class A: pass\nprint(A, A(), isinstance(A(), A), isinstance(A(), object), issubclass(A, object), A.__name__)\n", "<class A> <A> True True True A\n", ""},
		{"class A:\n  x = 1\n  y = x + 1\n  for i in range(3): x += i\n  def f(self): return self.y\nprint(A.x, A.y, A.i, A().f())\n", "4 2 2 2\n", ""},
		{"class A:\n  def who(self): return 'A'\nclass B(A):\n  def who(self): return 'B' + super(B, self).who()\nclass C(A):\n  def who(self): return 'C' + super(C, self).who()\nclass D(B, C):\n  def who(self): return 'D' + super(D, self).who()\nprint(D().who(), C().who())\n", "DBCA CA\n", ""},
		{"class A: x = 1\nclass B(A): pass\nclass C(A): x = 2\nclass D(B, C): pass\nprint(D.x, isinstance(D(), A), issubclass(D, C), issubclass(C, D))\n", "2 True True False\n", ""},
		{"class A: pass\nclass B(A): pass\nclass C(A, B): print('body')\n", "body\n", "TypeError"},
		{"class A: pass\nclass B(A, A): print('body')\n", "body\n", "TypeError"},
		{"class A(5): print('body')\n", "body\n", "TypeError"},
		{"class A(int): pass\n", "", "TypeError"},
		{"class A(list): pass\n", "", "TypeError"},
		{"class A(type): pass\n", "", "TypeError"},
		{"class A(bool): pass\n", "", "TypeError"},
		{"class A(object): pass\nclass B(A, object): pass\nprint(B)\nclass C(object, A): pass\n", "<class B>\n", "TypeError"},
		{"class E(ValueError): pass\nclass F(E, KeyError): pass\nprint(repr(F(1)), isinstance(F(), LookupError), issubclass(E, Exception))\ntry: raise F(2)\nexcept LookupError as e: print('caught', e)\n", "F(1) True True\ncaught 2\n", ""},
		{"class M:\n  def hi(self): return 'hi'\nclass E(M, Exception): pass\nprint(E(1).hi(), E(1).args)\n", "hi (1,)\n", ""},
		{"class A:\n  def __init_subclass__(cls, **k): print(cls.__name__, k)\nclass B(A, x=1, y=2): pass\nclass C(B): pass\n", "B {'x': 1, 'y': 2}\nC {}\n", ""},
		{"class A:\n  @classmethod\n  def __init_subclass__(cls, tag=0): cls.tag = tag\nclass B(A, tag=7): pass\nprint(B.tag, hasattr(A, 'tag'))\nclass C(B, other=1): pass\n", "7 False\n", "TypeError"},
		{"class A:\n  def __init_subclass__(cls): 1 / 0\nprint('made')\ntry:\n  class B(A): pass\nexcept ZeroDivisionError: print('raised')\nB\n", "made\nraised\n", "NameError"},
		{"class A(x=1): print('body')\n", "body\n", "TypeError"},
		{"class A(object, x=1): pass\n", "", "TypeError"},
		{"class A(x=1, x=2): print('body')\n", "", "TypeError"},
		{"class A:\n  def __init_subclass__(cls): print('sub')\n  def __init__(self): print('init')\nA()\n", "init\n", ""},
		{"@print\nclass A: x = 1\nprint(A)\n", "<class A>\nNone\n", ""},
		{"def tag(n):\n  def deco(c):\n    c.tags = getattr(c, 'tags', ()) + (n,)\n    return c\n  return deco\n@tag(1)\n@tag(2)\nclass A: pass\nprint(A.tags)\n", "(2, 1)\n", ""},
		{"class A:\n  1 / 0\n", "", "ZeroDivisionError"},
		{"class A:\n  try: 1 / 0\n  except ZeroDivisionError as e: x = e.args\n  y = [i for i in range(2)]\n  class B: z = 5\n  import m\n  from m import v as w\nprint(A.x, A.y, A.B.z, A.m.v, A.w)\n# module m\nv = 6\n", "() [0, 1] 5 6 6\n", ""},
		{"class A:\n  def __init__(self): self.n = 0\n  def __iter__(self): return self\n  def __next__(self):\n    self.n += 1\n    if self.n > 3: raise StopIteration('end')\n    return self.n\nprint(list(A()), sum(A()), [*A()], max(A()), 2 in A())\nfor x in A(): print(x, end=' ')\na, b, c = A()\nprint(a, b, c)\n", "[1, 2, 3] 6 [1, 2, 3] 3 True\n1 2 3 1 2 3\n", ""},
		{"class A:\n  def __iter__(self): return 5\nlist(A())\n", "", "TypeError"},
		{"class A:\n  def __iter__(self): return [1]\nlist(A())\n", "", "TypeError"},
		{"class A:\n  def __next__(self): return 1\nprint(next(A()))\nlist(A())\n", "1\n", "TypeError"},
		{"class A:\n  def __iter__(self):\n    yield 1\n    yield 2\nprint(list(A()), dict(zip(A(), A())))\n", "[1, 2] {1: 1, 2: 2}\n", ""},
		{"class A:\n  def __len__(self): return True\nprint(len(A()))\nclass B:\n  def __len__(self): return 1.0\nlen(B())\n", "1\n", "TypeError"},
		{"class A:\n  def __len__(self): return -1\nlen(A())\n", "", "ValueError"},
		{"class Meta: pass\nclass A: pass\nA.x = A\nprint(A.x.x is A, type(A) is type, isinstance(A, type), isinstance(A, object))\n", "True True True True\n", ""},
	}
}

func TestP10Calls(t *testing.T) { wantProgs(t, callProgs()) }

func TestP10Classes(t *testing.T) { wantProgs(t, classProgs()) }
