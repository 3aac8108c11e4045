package tests

import "testing"

// oneOfEach has a value of every kind under a name.
const oneOfEach = `
class C:
  def m(self): pass
  s = staticmethod(5)
  k = classmethod(5)
  p = property()
def f(): pass
def g(): yield
class R:
  def __repr__(self): return 'r!'
class S:
  def __str__(self): return 's!'
class N:
  def __repr__(self): return 5
  def __str__(self): return None
class E(Exception): pass
class T(Exception):
  def __repr__(self): return 'rt'
class U(Exception):
  def __str__(self): return 'su'
`

// reprRows are values with their repr; str is the same where strRows do not say
// otherwise.
const reprRows = `
None => None
True => True
-12 => -12
1.5e-7 => 1.5e-07
float('inf') => inf
float('nan') => nan
-0.0 => -0.0
'a"b' => 'a"b'
'\n\t\\\x00' => '\n\t\\\x00'
() => ()
(1,) => (1,)
(1, 'a', (2,)) => (1, 'a', (2,))
[] => []
[None, [1.0]] => [None, [1.0]]
{} => {}
{1: 'a', (2, 3): []} => {1: 'a', (2, 3): []}
set() => set()
{1, 'a'} => {1, 'a'}
range(3) => range(0, 3, 1)
range(1, 9, -2) => range(1, 9, -2)
slice(1) => slice(None, 1, None)
slice('a', [2], None) => slice('a', [2], None)
f => <function f>
lambda: 0 => <function <lambda>>
C().m => <method m>
C.m => <function m>
C.__match_args__ => !AttributeError
print => <builtin print>
[].append => <builtin append>
C => <class C>
int => <class int>
ValueError => <class ValueError>
type(None) => <class NoneType>
type(True) => <class bool>
type(1) => <class int>
type(1.0) => <class float>
type('') => <class str>
type(()) => <class tuple>
type([]) => <class list>
type({}) => <class dict>
type({1}) => <class set>
type(range(1)) => <class range>
type(slice(1)) => <class slice>
type(f) => <class function>
type(C().m) => <class method>
type(print) => <class builtin>
type(''.upper) => <class builtin>
type(C) => <class type>
type(type) => <class type>
type(C()) => <class C>
type(object()) => <class object>
type(g()) => <class generator>
type(iter([])) => <class iterator>
type(NotImplemented) => <class notimplemented>
type(property()) => <class property>
type(staticmethod(1)) => <class staticmethod>
type(classmethod(1)) => <class classmethod>
type(super(C, C())) => <class super>
type(E()) => <class E>
C() => <C>
object() => <object>
g() => <generator g>
(i for i in []) => <generator <gen>>
iter('') => <iterator>
property() => <property>
staticmethod(1) => <staticmethod>
classmethod(1) => <classmethod>
super(C, C()) => <super>
NotImplemented => NotImplemented
R() => r!
[R(), {R(): R()}] => [r!, {r!: r!}]
S() => <S>
N() => !TypeError
[N()] => !TypeError
E() => E()
E(1) => E(1)
E('a', [E()]) => E('a', [E()])
T(1) => rt
U(1) => U(1)
KeyError('k') => KeyError('k')
`

const strRows = `
str('a"b') => 'a"b'
str('') => ''
str() => ''
str([1, 'a']) => "[1, 'a']"
str(R()) => 'r!'
str(S()) => 's!'
str(N()) => !TypeError
str(C()) => '<C>'
str(E()) => ''
str(E('x')) => 'x'
str(E(5)) => '5'
str(E(['x'])) => "['x']"
str(E('x', 1)) => "('x', 1)"
str(E(E('in'))) => 'in'
str(E(S())) => 's!'
str(E(S(), 1)) => '(<S>, 1)'
str(T(1)) => '1'
str(U(1)) => 'su'
str([U(1)]) => '[U(1)]'
str(None) => 'None'
str(True) => 'True'
`

const truthRows = `
[bool(x) for x in (None, False, 0, 0.0, -0.0, '', (), [], {}, set(), range(0), range(2, 1))] => [False, False, False, False, False, False, False, False, False, False, False, False]
[bool(x) for x in (True, 1, -1, 0.5, float('nan'), ' ', (0,), [0], {0: 0}, {0}, range(1))] => [True, True, True, True, True, True, True, True, True, True, True]
[bool(x) for x in (print, int, f, C(), object(), NotImplemented, slice(0), iter([]), g(), E())] => [True, True, True, True, True, True, True, True, True, True]
bool() => False
bool(B(True)) => True
bool(B(False)) => False
bool(B(1)) => !TypeError
bool(B(None)) => !TypeError
bool(L(0)) => False
bool(L(2)) => True
bool(L(False)) => False
bool(L(-1)) => !ValueError
bool(L('a')) => !TypeError
not B(False) => True
1 if L(0) else 2 => 2
bool(BL()) => True
`

const truthClasses = oneOfEach + `
class B:
  def __init__(self, v): self.v = v
  def __bool__(self): return self.v
class L:
  def __init__(self, v): self.v = v
  def __len__(self): return self.v
class BL:
  def __bool__(self): return True
  def __len__(self): return 0
`

const keyRows = `
{None: 1, False: 2, 'a': 3, (1, 'b'): 4, 1.5: 5}[(1, 'b')] => 4
{0: 'a'}[False] => 'a'
{1: 'a'}[1.0] => 'a'
{(1, (True,)): 'a'}[(1.0, (1,))] => 'a'
{2 ** 70: 'a'}[2.0 ** 70] => 'a'
{2 ** 70 + 1: 'a'}[2.0 ** 70] => !KeyError: 1.1805916207174113e+21
{'1': 'a'}[1] => !KeyError: 1
{'': 1, (): 2, None: 3, 0: 4} => {'': 1, (): 2, None: 3, 0: 4}
{('a', 'b'): 1, ('a;', 'b'): 2, ('a', ';b'): 3} => {('a', 'b'): 1, ('a;', 'b'): 2, ('a', ';b'): 3}
{((1,), 2): 1, (1, (2,)): 2, (1, 2): 3, ((1, 2),): 4} => {((1,), 2): 1, (1, (2,)): 2, (1, 2): 3, ((1, 2),): 4}
{n, n} => {nan, nan}
n in {n} => False
{n: 1}.get(n) => None
(1, n) in {(1, n)} => False
{n} == {n} => False
{n} | {n} => {nan, nan}
{n} - {n} => {nan}
len({f, C, print, C(), C(), f, range(1), range(1), NotImplemented, NotImplemented, int}) => 9
{C: 1}[C] => 1
{i: 1}[i] => 1
{i: 1}[C()] => !KeyError: <C>
{[]: 1} => !TypeError
{{}: 1} => !TypeError
{(1, [])} => !TypeError
{set()} => !TypeError
{slice(1)} => !TypeError
{Q()} => !TypeError
{(Q(),)} => !TypeError
[] in {} => !TypeError
{}.get([]) => !TypeError
set([[]]) => !TypeError
{True: 'a', 1: 'b'} => {True: 'b'}
{1: 'a', 1.5: 'b', -1.5: 'c', 1e300: 'd'}[1.5] => 'b'
{1: 'a', 1.5: 'b'} => {1: 'a', 1.5: 'b'}
{float('inf'): 1, float('-inf'): 2}[float('-inf')] => 2
{1, True, 1.0} => {1}
`

const keyClasses = oneOfEach + "n = float('nan')\ni = C()\nclass Q:\n  def __eq__(self, o): return True\n"

const sameRows = `
[None is None, True is True, 5 is 5, 2 ** 80 is 2 ** 80, 1.5 is 1.5, 'ab' is 'a' + 'b'] => [True, True, True, True, True, True]
[1 is True, 1 is 1.0, 0.0 is -0.0, n is n, '' is None] => [False, False, False, True, False]
[[] is [], () is (), {} is {}, C() is C(), i is i, i.m is i.m, print is print, type(1) is int] => [False, False, False, False, True, False, True, True]
NotImplemented is NotImplemented => True
`

// valueProgs have every value with its repr, str, truth and what it is as a key.
func valueProgs() []prog {
	list := rowsOf(oneOfEach, reprRows+strRows)
	list = append(list, rowsOf(truthClasses, truthRows)...)
	list = append(list, rowsOf(keyClasses, keyRows+sameRows)...)
	return append(list, []prog{
		{"a = [1]\na.append(a)\nd = {1: a}\nd[2] = d\na.append((a,))\nprint(a, d)\n", "[1, [...], ([...],)] {1: [1, [...], ([...],)], 2: {...}}\n", ""},
		{"a = []\nt = (a,)\na.append(t)\nprint(t)\n", "([([...],)],)\n", ""},
		{"a = []\ns = slice(a)\na.append(s)\nprint(a)\ne = ValueError(a)\na.append(e)\nprint(a, repr(e))\n", "[slice(None, [...], None)]\n[slice(None, [...], None), ValueError([...])] ValueError([slice(None, [...], None), ValueError([...])])\n", ""},
		{"a = []\na.append(a)\na.append(a)\nb = [a, a]\nprint(b)\n", "[[[...], [...]], [[...], [...]]]\n", ""},
		{"class A:\n  def __repr__(self): return repr(a)\na = [A()]\nprint(a)\n", "", "RecursionError"},
		{"a = [0]\nclass A:\n  def __repr__(self):\n    if len(a) < 4: a.append(len(a))\n    return 'A'\na.append(A())\nprint(a)\n", "[0, A, 2]\n", ""},
		{"d = {1.0: 'a'}\nd[1] = 'b'\nd[True] = 'c'\nprint(d)\n", "{1.0: 'c'}\n", ""},
		{"class A: pass\nd = {A: 1}\nA.__name__ = 'B'\nprint(d, A.__name__, repr(A))\n", "{<class A>: 1} B <class A>\n", ""},
		{"class A: pass\na = A()\nd = {a: 1}\nA.__eq__ = lambda s, o: True\nprint(len(d))\nd[a]\n", "1\n", "TypeError"},
		{"import main\nprint(main)\nmain.__name__ = 'x'\nprint(main, __name__)\nimport m\nprint(m)\n# module m\npass\n", "<module __main__>\n<module __main__> x\n<module m>\n", ""},
	}...)
}

func TestP10Values(t *testing.T) { wantProgs(t, valueProgs()) }
