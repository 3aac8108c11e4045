package tests

import "testing"

const numberRows = `
(7 + 3, 7 - 9, 7 * 3, 7 / 2, 7 // 2, 7 % 3, 7 ** 2) => (10, -2, 21, 3.5, 3, 1, 49)
(-7 // 2, -7 % 3, 7 // -2, 7 % -3) => (-4, 2, -4, -2)
(5 | 3, 5 ^ 3, 5 & 3, -5 | 3, -5 & 3, -5 ^ 3, ~5, ~-1) => (7, 6, 1, -5, 3, -8, -6, 0)
(1 << 40, 5 >> 1, -5 >> 1, 1 >> 100, -1 >> 100, 0 << 5000) => (1099511627776, 2, -3, 0, -1, 0)
(True + True, True * 2.5, -True, +True, ~True, True / 2) => (2, 2.5, -1, 1, -2, 0.5)
(True | False, True & False, True ^ True, True | 2, True ^ 1, 1 & True) => (True, False, False, 3, 0, 1)
(1.5 + 1, 1 - 0.5, 2 * 1.5, 1 / 4, 7.5 // 2, -7.5 // 2, 7.5 % 2, -7.5 % 2) => (2.5, 0.5, 3.0, 0.25, 3.0, -4.0, 1.5, 0.5)
(2.0 ** 3, 2.0 ** 0, 0.0 ** 0, 2.0 ** True, 1.0 ** 1000) => (8.0, 1.0, 1.0, 2.0, 1.0)
(-1.5, +1.5, -0.0, -(0.0)) => (-1.5, 1.5, -0.0, -0.0)
-float('nan') => nan
1e308 * 10 => inf
1e200 ** 2 => inf
2 ** 64 => 18446744073709551616
2 ** 4095 // 2 ** 4090 => 32
1 / 0 => !ZeroDivisionError
1 // 0 => !ZeroDivisionError
1 % 0 => !ZeroDivisionError
1.0 / 0 => !ZeroDivisionError
1 // 0.0 => !ZeroDivisionError
1.5 % False => !ZeroDivisionError
2 ** 4096 => !OverflowError
2 ** 4095 * 2 => !OverflowError
1 << 4096 => !OverflowError
1 << 2 ** 70 => !OverflowError
1 >> 2 ** 70 => !OverflowError
2 ** 2 ** 70 => !OverflowError
2 ** 1024 + 0.5 => !OverflowError
2 ** 1024 / 1 => !OverflowError
10 ** 400 / 0 => !OverflowError
1 << -1 => !ValueError
1 >> -1 => !ValueError
1 << -(2 ** 70) => !ValueError
2 ** -1 => !ValueError
2.0 ** -1 => !ValueError
2.0 ** 1001 => !ValueError
2.0 ** 0.5 => !ValueError
2 ** 0.5 => !ValueError
2.0 ** 2 ** 70 => !ValueError
1.5 | 1 => !TypeError
1 << 1.5 => !TypeError
1.5 & 1.5 => !TypeError
~1.5 => !TypeError
1 + None => !TypeError
1 + '1' => !TypeError
None + None => !TypeError
-'a' => !TypeError
+None => !TypeError
~[] => !TypeError
-(2 ** 4096 - 1) == 1 - 2 ** 4095 - 2 ** 4095 => !OverflowError
~-(2 ** 4095) == 2 ** 4095 - 1 => True
`

const thingRows = `
'ab' + 'cd' => 'abcd'
(1,) + (2, 3) => (1, 2, 3)
[1] + [2, 3] => [1, 2, 3]
('ab' * 2, 2 * 'ab', 'ab' * 0, 'ab' * -3, 'ab' * True) => ('abab', 'abab', '', '', 'ab')
((1, 2) * 2, 2 * (1,), (1,) * -1) => ((1, 2, 1, 2), (1, 1), ())
([1] * 3, 3 * [[]], [] * 2 ** 60) => ([1, 1, 1], [[], [], []], [])
([1] * 1, 1 * (1,), 'a' * 1, [1] * 0) => ([1], (1,), 'a', [])
'' * 2 ** 60 => ''
{1, 2} | {3, 1} => {1, 2, 3}
{1, 2, 3} & {3, 1} => {1, 3}
{1, 2, 3} - {3, 1} => {2}
{1, 2, 3} ^ {5, 3, 1} => {2, 5}
'a' + 1 => !TypeError
'a' + None => !TypeError
[1] + (2,) => !TypeError
(1,) + [2] => !TypeError
'a' * 'b' => !TypeError
'a' * 1.5 => !TypeError
[1] * None => !TypeError
None * 2 => !TypeError
2 * {} => !TypeError
{1} * 2 => !TypeError
[1] - [1] => !TypeError
'a' % 1 => !TypeError
{1} + {2} => !TypeError
{1} | [2] => !TypeError
{1: 2} | {3: 4} => !TypeError
'a' * 2 ** 70 => !OverflowError
[1] * 2 ** 70 => !OverflowError
() * 2 ** 70 => !OverflowError
'ab' * 8193 => !OverflowError
('a' * 16384) + 'b' => !OverflowError
len('ab' * 8192) => 16384
range(3) + range(3) => !TypeError
`

// methodClasses have methods with two underscores that tell how they are called.
const methodClasses = `
class A:
  def __or__(s, o): return ('or', o)
  def __xor__(s, o): return ('xor', o)
  def __and__(s, o): return ('and', o)
  def __lshift__(s, o): return ('lshift', o)
  def __rshift__(s, o): return ('rshift', o)
  def __add__(s, o): return ('add', o)
  def __sub__(s, o): return ('sub', o)
  def __mul__(s, o): return ('mul', o)
  def __truediv__(s, o): return ('truediv', o)
  def __floordiv__(s, o): return ('floordiv', o)
  def __mod__(s, o): return ('mod', o)
  def __pow__(s, o): return ('pow', o)
  def __pos__(s): return 'pos'
  def __neg__(s): return 'neg'
  def __invert__(s): return 'invert'
class B:
  def __ror__(s, o): return ('ror', o)
  def __rxor__(s, o): return ('rxor', o)
  def __rand__(s, o): return ('rand', o)
  def __rlshift__(s, o): return ('rlshift', o)
  def __rrshift__(s, o): return ('rrshift', o)
  def __radd__(s, o): return ('radd', o)
  def __rsub__(s, o): return ('rsub', o)
  def __rmul__(s, o): return ('rmul', o)
  def __rtruediv__(s, o): return ('rtruediv', o)
  def __rfloordiv__(s, o): return ('rfloordiv', o)
  def __rmod__(s, o): return ('rmod', o)
  def __rpow__(s, o): return ('rpow', o)
class N:
  def __add__(s, o): return NotImplemented
  def __radd__(s, o): return NotImplemented
class O: pass
a = A()
b = B()
n = N()
o = O()
o.__add__ = lambda x: 5
`

const methodRows = `
[a | 1, a ^ 1, a & 1, a << 1, a >> 1, a + 1] => [('or', 1), ('xor', 1), ('and', 1), ('lshift', 1), ('rshift', 1), ('add', 1)]
[a - 1, a * 1, a / 1, a // 1, a % 1, a ** 1] => [('sub', 1), ('mul', 1), ('truediv', 1), ('floordiv', 1), ('mod', 1), ('pow', 1)]
[1 | b, 1 ^ b, 1 & b, 1 << b, 1 >> b, 1 + b] => [('ror', 1), ('rxor', 1), ('rand', 1), ('rlshift', 1), ('rrshift', 1), ('radd', 1)]
[1 - b, 1 * b, 1 / b, 1 // b, 1 % b, 1 ** b] => [('rsub', 1), ('rmul', 1), ('rtruediv', 1), ('rfloordiv', 1), ('rmod', 1), ('rpow', 1)]
[+a, -a, ~a] => ['pos', 'neg', 'invert']
(a + b)[0] => 'add'
(n + b)[0] => 'radd'
[1] * b => ('rmul', [1])
n + n => !TypeError
n + 1 => !TypeError
1 + n => !TypeError
1 + a => !TypeError
b + 1 => !TypeError
o + 1 => !TypeError
-o => !TypeError
-n => !TypeError
divmod(a, 1) => (('floordiv', 1), ('mod', 1))
sum([b], 0) => ('radd', 0)
sum([1], a) => ('add', 1)
`

// operatorProgs have every operator with every kind of value it takes.
func operatorProgs() []prog {
	list := append(rowsOf("", numberRows+thingRows), rowsOf(methodClasses, methodRows)...)
	return append(list, []prog{
		{"x = 5\nx += 2\nx -= 1\nx *= 6\nx //= 5\nprint(x)\nx **= 2\nx %= 30\nprint(x)\nx <<= 3\nx >>= 1\nprint(x)\nx |= 1\nx &= 60\nx ^= 2\nprint(x)\nx /= 4\nprint(x)\n", "7\n19\n76\n14\n3.5\n", ""},
		{"a = b = [1]\na += (2, 3)\na += 'x'\na += a\nprint(a, b is a)\na *= 2\nprint(len(a), b is a)\na += 5\n", "[1, 2, 3, 'x', 1, 2, 3, 'x'] True\n16 False\n", "TypeError"},
		{"a = b = (1,)\na += (2,)\nprint(a, b)\ns = t = {1}\ns |= {2}\nprint(s, t)\nu = 'a'\nu += 'b'\nu *= 2\nprint(u)\n", "(1, 2) (1,)\n{1, 2} {1}\nabab\n", ""},
		{"def g(l):\n  for i in 'ab':\n    l.append('g')\n    yield i\na = [1]\na += g(a)\nprint(a)\n", "[1, 'g', 'g', 'a', 'b']\n", ""},
		{"class A:\n  def __add__(s, o): return 'sum'\n  def __iadd__(s, o): return 'own'\na = A()\na += 1\nprint(a)\n", "sum\n", ""},
		{"class A:\n  def __radd__(s, o): return 'sum'\na = [1]\na += A()\n", "", "TypeError"},
		{"class A:\n  @staticmethod\n  def __add__(o): return ('static', o)\n  @classmethod\n  def __sub__(c, o): return (c, o)\n  __mul__ = print\n  __neg__ = lambda s: 'lambda'\nprint(A() + 1, A() - 1, -A())\nA() * 'by'\n", "('static', 1) (<class A>, 1) lambda\nby\n", ""},
	}...)
}

const equalRows = `
(1 == 1.0, 1 == True, 0 == False, 2 ** 70 == 2.0 ** 70, 2 ** 70 + 1 == 2.0 ** 70, 0.0 == -0.0) => (True, True, True, True, False, True)
(n == n, n != n, n == 1, [n] == [n], (n,) == (n,), {1: n} == {1: n}) => (False, True, False, True, True, True)
('a' == 'a', 'a' == 'b', 'a' == 1, '' == None) => (True, False, False, False)
((1, 2) == (1.0, 2), (1, 2) == (1,), (1,) == [1], [] == []) => (True, False, False, True)
([1, [2]] == [1, [2]], [1] == [2], [1] != [2], [] != ()) => (True, False, True, True)
({1: 2} == {1.0: 2.0}, {1: 2, 3: 4} == {3: 4, 1: 2}, {1: 2} == {1: 3}, {1: 2} == {2: 1}, {} == set()) => (True, True, False, False, False)
({1: 2} == {1: 2, 3: 4}, {1: 2, 3: 4} == {1: 2}, {} == {}, {} == {1: 2}) => (False, False, True, False)
({1, 2} == {2, 1}, {1} == {2}, {1} == {1, 2}, {1} == [1]) => (True, False, False, False)
(range(3) == range(0, 3), range(3) == range(0, 3, 1), range(0) == range(1, 1), range(1) == [0]) => (True, True, False, False)
(slice(1) == slice(1), print == print, print == len, int == int, O() == O(), o == o) => (False, True, False, True, False, True)
(NotImplemented == NotImplemented, None == None, None == 0, o.m == o.m, iter([]) == iter([])) => (True, True, False, False, False)
(Q(1) == 1, 1 == Q(1), Q(1) != 1, Q(0) == 1, [Q(1)] == [1], 1 in [Q(1)]) => (True, True, False, False, True, True)
(Q([]) == 1, Q('x') == 1, Q(NotImplemented) == 1, Q(NotImplemented) != 1) => (False, True, False, True)
(Q(NotImplemented) == Q(1), Q(0) == Q(1), W == Q(1)) => (True, False, True)
`

const lessRows = `
(1 < 2, 1 < 1, 1 <= 1, 1 > 0.5, 2 >= 2.0, True < 2, 2 ** 70 < 2.0 ** 71) => (True, False, True, True, True, True, True)
(n < 1, n <= 1, n > 1, n >= 1, 1 < n, n < n) => (False, False, False, False, False, False)
('a' < 'b', 'a' < 'ab', 'Z' < 'a', '' < 'a', '\u00e9' > 'z', 'b' <= 'a') => (True, True, True, True, True, False)
((1, 2) < (1, 3), (1,) < (1, 0), (2,) < (1, 5), () < (), () <= (), (1, 2) >= (1, 2)) => (True, True, False, False, True, True)
([1, 'a'] < [2, 5], [1] > [], [[1]] < [[2]]) => (True, True, True)
({1} < {1, 2}, {1} <= {1}, {1} < {1}, {1, 2} > {2}, {1, 2} >= {3}, set() < {1}, {1} < {2}) => (True, True, False, True, False, True, False)
((n,) < (1,), (n,) <= (n,), (n,) < (n, 1)) => (False, True, True)
1 < 'a' => !TypeError
'a' < 1 => !TypeError
None < None => !TypeError
[] < () => !TypeError
(1,) < ('a',) => !TypeError
{} < {} => !TypeError
{1} < [1] => !TypeError
range(1) < range(2) => !TypeError
int < int => !TypeError
o < o => !TypeError
print > 1 => !TypeError
(L() < 1, L() <= 1, L() > 1, L() >= 1) => ('lt', 'le', 'gt', 'ge')
(1 < L(), 1 <= L(), 1 > L(), 1 >= L()) => ('gt', 'ge', 'lt', 'le')
(M() < L(), M() > L()) => ('gt', 'lt')
M() < 1 => !TypeError
M() < M() => !TypeError
M() <= M() => !TypeError
(L(),) < (1,) => 'lt'
1 < L() < 5 => 'lt'
Z() < 1 < 5 => []
not (Z() < 1) => True
`

const memberRows = `
(1 in [1, 2], 3 in [1], 1.0 in (1,), n in [n], 'a' in ['b']) => (True, False, True, True, False)
('b' in 'abc', '' in '', 'ac' in 'abc', 'abcd' in 'abc', 'bc' not in 'abc') => (True, True, False, False, False)
(1 in {1: 2}, 2 in {1: 2}, 1.0 in {1}, 'a' in {'a'}) => (True, False, True, True)
(3 in range(5), 5 in range(5), 'a' in range(5), 2 in (i for i in [1, 2, 3])) => (True, False, False, True)
(5 in K([]), 5 in K('x'), 5 not in K(0)) => (False, True, True)
(2 in J(), 9 in J()) => (True, False)
1 in 'abc' => !TypeError
None in 'abc' => !TypeError
1 in 1 => !TypeError
1 in None => !TypeError
1 in O() => !TypeError
[] in {1} => !TypeError
[] in {} => !TypeError
1 in int => !TypeError
`

const compareClasses = `
n = float('nan')
class O:
  def m(self): pass
o = O()
class Q:
  def __init__(self, v): self.v = v
  def __eq__(self, other): return self.v
class WW:
  def __eq__(self, other): return NotImplemented
W = WW()
class L:
  def __lt__(self, o): return 'lt'
  def __le__(self, o): return 'le'
  def __gt__(self, o): return 'gt'
  def __ge__(self, o): return 'ge'
class M:
  def __lt__(self, o): return NotImplemented
class Z:
  def __lt__(self, o): return []
class K:
  def __init__(self, v): self.v = v
  def __contains__(self, x): return self.v
class J:
  def __iter__(self): return iter([1, 2])
`

func compareProgs() []prog {
	return append(rowsOf(compareClasses, equalRows+lessRows+memberRows), []prog{
		{"class A:\n  def __eq__(self, o):\n    print('eq')\n    return True\na = A()\nprint(a == a, [a] == [a], a in [a], [a].index(a), a != a)\n", "eq\neq\nTrue True True 0 False\n", ""},
		{"class A:\n  def __init__(s, n): s.n = n\n  def __eq__(s, o):\n    print(s.n, end='')\n    return False\nprint([A(1), A(2)] == [A(3), A(4)], A(1) in [A(2), A(3)], [A(5)].count(A(6)))\n", "1235False False 0\n", ""},
		{"class A:\n  def __eq__(s, o):\n    b.pop()\n    return True\na = [A(), 1]\nb = [A(), 1]\nprint(a == b)\n", "False\n", ""},
		{"class A:\n  def __eq__(s, o):\n    a.clear()\n    return True\na = [A(), 1]\nb = [5, 6]\nprint(a == b)\n", "True\n", ""},
		{"class A:\n  def __eq__(s, o):\n    b.append(2)\n    return True\na = [A()]\nb = [5]\nprint(a == b, a < b, b)\n", "True True [5, 2, 2]\n", ""},
		{"class A:\n  def __eq__(s, o): return NotImplemented\n  def __lt__(s, o): return NotImplemented\n  def __gt__(s, o): return NotImplemented\na = A()\nprint(a == a, a == A(), a == 1)\na < a\n", "True False False\n", "TypeError"},
		{"a = []\na.append(a)\nprint(a == a, a == [a])\nb = [a]\nb.append(b)\n", "True True\n", ""},
		{"a = []\na.append(a)\nb = []\nb.append(b)\na == b\n", "", "RecursionError"},
	}...)
}

func TestP10Operators(t *testing.T) { wantProgs(t, operatorProgs()) }

func TestP10Comparisons(t *testing.T) { wantProgs(t, compareProgs()) }
