package tests

import "testing"

const builtinRows = `
len('a\u00e9') => 2
[len(x) for x in ((), [1], {1: 2}, {1, 2}, range(3), '')] => [0, 1, 1, 2, 3, 0]
len(range(-(2 ** 63), 2 ** 63 - 1)) => 9223372036854775807
len(range(0, 2 ** 63 - 1)) => 9223372036854775807
len(range(2 ** 63 - 1, -(2 ** 63), -(2 ** 63))) => 2
len(5) => !TypeError
len(iter([])) => !TypeError
len() => !TypeError
len('a', 'b') => !TypeError
len(a='a') => !TypeError
repr('a') => "'a'"
repr() => !TypeError
(bool(), bool(1), bool('')) => (False, True, False)
bool(1, 2) => !TypeError
(str(), str(5), str('a')) => ('', '5', 'a')
str(1, 2) => !TypeError
(int(), int(5), int(True), int(2.9), int(-2.9), int(1e20), int(' -12\n')) => (0, 5, 1, 2, -2, 100000000000000000000, -12)
(int('ff', 16), int('-101', 2), int('zz', 36), int('7', True + 9)) => (255, -5, 1295, 7)
int('') => !ValueError
int('1.5') => !ValueError
int('+1') => !ValueError
int('1_0') => !ValueError
int('FF', 16) => !ValueError
int('2', 2) => !ValueError
int('1', 1) => !ValueError
int('1', 37) => !ValueError
int('1', 2 ** 70) => !ValueError
int('1', '2') => !TypeError
int(5, 10) => !TypeError
int(None) => !TypeError
int([]) => !TypeError
int(float('inf')) => !OverflowError
int(float('-inf')) => !OverflowError
int(float('nan')) => !ValueError
int('1', 2, 3) => !TypeError
int(a=1) => !TypeError
(float(), float(2), float(True), float(1.5), float(' 1e3\t'), float('-inf'), float('.5')) => (0.0, 2.0, 1.0, 1.5, 1000.0, -inf, 0.5)
float('') => !ValueError
float('x') => !ValueError
float('1 2') => !ValueError
float(None) => !TypeError
float(2 ** 1024) => !OverflowError
float(1, 2) => !TypeError
(list(), list('ab'), list((1,)), list({1: 2}), list(range(2))) => ([], ['a', 'b'], [1], [1], [0, 1])
(tuple(), tuple('ab'), tuple([1]), set(), set('aba'), set([1, True])) => ((), ('a', 'b'), (1,), set(), {'a', 'b'}, {1})
list(5) => !TypeError
list([], []) => !TypeError
tuple(None) => !TypeError
set(5) => !TypeError
set([{}]) => !TypeError
list(a=[]) => !TypeError
(dict(), dict({1: 2}), dict([(1, 2), [3, 4]]), dict(a=1), dict({'a': 1}, a=2, b=3), dict(['ab'])) => ({}, {1: 2}, {1: 2, 3: 4}, {'a': 1}, {'a': 2, 'b': 3}, {'a': 'b'})
dict(**{'x y': 1}) => {'x y': 1}
dict([(1, 2, 3)]) => !ValueError
dict([(1,)]) => !ValueError
dict([5]) => !TypeError
dict(5) => !TypeError
dict([([], 1)]) => !TypeError
dict({}, {}) => !TypeError
(list(range(3)), list(range(1, 4)), list(range(5, 0, -2)), list(range(3, 1))) => ([0, 1, 2], [1, 2, 3], [5, 3, 1], [])
range(True, 3) => range(1, 3, 1)
range() => !TypeError
range(1, 2, 3, 4) => !TypeError
range('a') => !TypeError
range(1.0) => !TypeError
range(1, 2, 0) => !ValueError
range(2 ** 63) => !OverflowError
range(-(2 ** 63) - 1) => !OverflowError
range(2 ** 63 - 1) => range(0, 9223372036854775807, 1)
range(-(2 ** 63), 2 ** 63 - 1)[2 ** 63 - 2] => -2
(slice(1), slice(1, 2), slice(1, 2, 3)) => (slice(None, 1, None), slice(1, 2, None), slice(1, 2, 3))
slice() => !TypeError
slice(1, 2, 3, 4) => !TypeError
slice(stop=1) => !TypeError
(iter([]), iter('a'), iter(range(1))) => (<iterator>, <iterator>, <iterator>)
iter(5) => !TypeError
iter() => !TypeError
iter(i) is i => True
(next(iter([5])), next(iter([]), 6), next(N(1)), next(N(0), 'd')) => (5, 6, 'n', 'd')
next(iter([])) => !StopIteration
next(N(0)) => !StopIteration: ('args', 2)
next([]) => !TypeError
next(5) => !TypeError
next([], 5) => !TypeError
next() => !TypeError
next(iter([]), 1, 2) => !TypeError
(sum([]), sum([1, 2.5]), sum([[1], [2]], []), sum(range(4), start=10), sum(['a'], 'b')) => (0, 3.5, [1, 2], 16, 'ba')
sum(['a']) => !TypeError
sum(5) => !TypeError
sum() => !TypeError
sum([], 1, 2) => !TypeError
sum([], 1, start=2) => !TypeError
sum([], other=2) => !TypeError
sum(start=[]) => !TypeError
(min(3, 1, 2), max(3, 1, 2), min([2, 1]), max('ab'), min([1, 1.0]), max(1, 1.0, True)) => (1, 3, 1, 'b', 1, 1)
(min([3, -1, 2], key=abs), max([-3, 2], key=abs), min('b', 'a', key=None)) => (-1, -3, 'a')
min([]) => !ValueError
max(()) => !ValueError
min() => !TypeError
min(5) => !TypeError
min(1, 'a') => !TypeError
max([1], default=2) => !TypeError
min([1], key=5) => !TypeError
min(key=abs) => !TypeError
(abs(-3), abs(3), abs(True), abs(-1.5), abs(-0.0), abs(-(2 ** 70))) => (3, 3, 1, 1.5, 0.0, 1180591620717411303424)
abs('a') => !TypeError
abs() => !TypeError
(sorted([3, 1, 2]), sorted('bca'), sorted({2: 0, 1: 0}), sorted([1, 3, 2], reverse=True)) => ([1, 2, 3], ['a', 'b', 'c'], [1, 2], [3, 2, 1])
sorted(['bb', 'a', 'ccc', 'dd'], key=len) => ['a', 'bb', 'dd', 'ccc']
sorted(['bb', 'a', 'ccc', 'dd'], key=len, reverse=True) => ['ccc', 'bb', 'dd', 'a']
sorted([2, 1], key=None, reverse=False) => [1, 2]
sorted([1, 'a']) => !TypeError
sorted(5) => !TypeError
sorted() => !TypeError
sorted([], len) => !TypeError
sorted([], other=1) => !TypeError
sorted([1], key=5) => !TypeError
(reversed([1, 2]), reversed('ab'), reversed(range(3)), reversed(())) => ([2, 1], ['b', 'a'], [2, 1, 0], [])
reversed(5) => !TypeError
(enumerate('ab'), enumerate([5], 3), enumerate([5], start=True), enumerate([])) => ([(0, 'a'), (1, 'b')], [(3, 5)], [(1, 5)], [])
enumerate('ab', 'x') => !TypeError
enumerate(5) => !TypeError
enumerate() => !TypeError
enumerate([], 1, start=2) => !TypeError
enumerate([1], 2 ** 4096 - 1)[0][1] => !OverflowError
len(enumerate([1], 2 ** 4095)) => 1
(zip([1, 2], 'abc'), zip([1]), zip([], [1]), zip([1, 2], (3, 4), 'ab')) => ([(1, 'a'), (2, 'b')], [(1,)], [], [(1, 3, 'a'), (2, 4, 'b')])
zip() => !TypeError
zip([], 5) => !TypeError
(map(str, [1, 2]), map(lambda x: x + 1, ()), filter(None, [0, 1, '', 'a']), filter(lambda x: x > 1, [1, 2])) => (['1', '2'], [], [1, 'a'], [2])
map(str) => !TypeError
map(str, [1], [2]) => !TypeError
map(5, [1]) => !TypeError
map(5, []) => []
map(str, 5) => !TypeError
filter(None) => !TypeError
filter(5, [1]) => !TypeError
(any([0, 1]), any([0, '']), any([]), all([1, 'a']), all([1, 0]), all([])) => (True, False, False, True, False, True)
any(5) => !TypeError
all() => !TypeError
(isinstance(1, int), isinstance(True, int), isinstance(1, bool), isinstance('a', (int, str)), isinstance(1, ()), isinstance(None, object)) => (True, True, False, True, False, True)
isinstance(1, (int, 5)) => True
isinstance('a', (int, 5)) => !TypeError
isinstance(1, 5) => !TypeError
isinstance(1, [int]) => !TypeError
isinstance(1, (int, (str,))) => True
isinstance('a', (int, (str,))) => !TypeError
isinstance(1) => !TypeError
(issubclass(bool, int), issubclass(int, bool), issubclass(KeyError, (ValueError, LookupError)), issubclass(int, object)) => (True, False, True, True)
issubclass(1, int) => !TypeError
issubclass(int, 1) => !TypeError
type() => !TypeError
type(1, 2, 3) => !TypeError
getattr(N, '__name__') => 'N'
getattr(1, 2) => !TypeError
getattr(1) => !TypeError
getattr(1, 'a', 2, 3) => !TypeError
hasattr(1, 2) => !TypeError
hasattr(1) => !TypeError
setattr(1, 'a') => !TypeError
setattr(1, 'a', 2) => !AttributeError
setattr(N, 5, 2) => !TypeError
(ord('a'), ord('\u00e9'), chr(97), chr(233), chr(1114111) == '', chr(True)) => (97, 233, 'a', 'é', False, '\x01')
(chr(0), ord('\x00'), chr(0xd7ff) == '', chr(0xe000) == '') => ('\x00', 0, False, False)
ord('') => !ValueError
ord('ab') => !ValueError
ord(5) => !TypeError
chr(-1) => !ValueError
chr(1114112) => !ValueError
chr(0xd800) => !ValueError
chr(2 ** 70) => !ValueError
chr('a') => !TypeError
chr(1.0) => !TypeError
(divmod(7, 2), divmod(-7, 2), divmod(7.5, 2)) => ((3, 1), (-4, 1), (3.0, 1.5))
divmod(1, 0) => !ZeroDivisionError
divmod(1, 'a') => !TypeError
divmod(1) => !TypeError
property(1, 2, 3) => !TypeError
property(1, get=2) => !TypeError
property(fget=1) => !TypeError
staticmethod() => !TypeError
classmethod(1, 2) => !TypeError
super() => !TypeError
super(N) => !TypeError
object(a=1) => !TypeError
sorted([], key=abs, reverse=[]) => []
`

func builtinProgs() []prog {
	classes := "i = iter([])\nclass N:\n  def __init__(self, n): self.n = n\n  def __next__(self):\n    if self.n: return 'n'\n    raise StopIteration('args', 2)\n"
	return append(rowsOf(classes, builtinRows), []prog{
		{"print()\nprint(1, 'a', None, [2])\nprint(1, 2, sep='')\nprint(1, 2, sep=', ', end='!')\nprint(end='')\nprint('', '')\nprint(print(end='x'))\n", "\n1 a None [2]\n12\n1, 2! \nxNone\n", ""},
		{"print(1, sep=5)\n", "", "TypeError"},
		{"print(1, end=None)\n", "", "TypeError"},
		{"print(1, file=2)\n", "", "TypeError"},
		{"print(*'abc', sep='-')\n", "a-b-c\n", ""},
		{"class A:\n  def __str__(self):\n    print('inner')\n    return 'outer'\nprint(A(), A())\n", "inner\ninner\nouter outer\n", ""},
		{"def k(x):\n  print(x, end=' ')\n  return x\nprint(sorted([3, 1, 2], key=k, reverse=True), min([2, 1], key=k), max(5, 6, key=k))\n", "2 1 3 2 1 5 6 [3, 2, 1] 1 6\n", ""},
		{"class T:\n  def __init__(self, n): self.n = n\n  def __lt__(self, o):\n    print(self.n, o.n, end='; ')\n    return self.n < o.n\nprint([x.n for x in sorted([T(3), T(1), T(2)])])\nprint(min(T(2), T(1)).n)\nmax(T(2), T(1))\n", "1 3; 2 1; 2 3; 2 1; [1, 2, 3]\n1 2; 1\n2 1; ", ""},
		{"print(list(map(print, [1, 2])), all(print(x) for x in [3, 4]), any(map(print, [5])))\n", "1\n2\n3\n5\n[None, None] False False\n", ""},
		{"def g(n):\n  for i in range(n):\n    print('g', i)\n    yield i\nprint(zip(g(2), g(1)))\n", "g 0\ng 0\ng 1\n[(0, 0)]\n", ""},
		{"class A:\n  def __iter__(self):\n    print('iter')\n    return iter([])\nzip(A(), A(), 5)\n", "iter\niter\n", "TypeError"},
		{"a = [3, 1, 2]\nprint(sorted(a), a, list(reversed(a)), a, enumerate(a, -1))\n", "[1, 2, 3] [3, 1, 2] [2, 1, 3] [3, 1, 2] [(-1, 3), (0, 1), (1, 2)]\n", ""},
		{"class A: pass\na = A()\nprint(setattr(a, 'x y', 5), getattr(a, 'x y'), hasattr(a, 'x'))\nsetattr(A, 'z', 6)\nprint(a.z)\n", "None 5 False\n6\n", ""},
		{"class A:\n  x = property(lambda s: 1, lambda s, v: print('set', v))\n  y = property(get=lambda s: 2)\n  z = property(set=lambda s, v: print('z', v))\na = A()\na.x = 5\na.z = 6\nprint(a.x, a.y)\na.y = 7\n", "set 5\nz 6\n1 2\n", "AttributeError"},
		{"print([t.__name__ for t in (BaseException, Exception, GeneratorExit, TypeError, ValueError, LookupError, IndexError, KeyError, NameError, AttributeError, ArithmeticError, ZeroDivisionError, OverflowError, RuntimeError, RecursionError, StopIteration, AssertionError, ImportError)])\n",
			"['BaseException', 'Exception', 'GeneratorExit', 'TypeError', 'ValueError', 'LookupError', 'IndexError', 'KeyError', 'NameError', 'AttributeError', 'ArithmeticError', 'ZeroDivisionError', 'OverflowError', 'RuntimeError', 'RecursionError', 'StopIteration', 'AssertionError', 'ImportError']\n", ""},
		{"print([issubclass(a, b) for a, b in ((Exception, BaseException), (GeneratorExit, Exception), (GeneratorExit, BaseException), (IndexError, LookupError), (KeyError, LookupError), (ZeroDivisionError, ArithmeticError), (OverflowError, ArithmeticError), (RecursionError, RuntimeError), (StopIteration, Exception), (ArithmeticError, Exception), (AssertionError, Exception), (ImportError, Exception), (NameError, Exception), (AttributeError, Exception), (TypeError, ValueError))])\n",
			"[True, False, True, True, True, True, True, True, True, True, True, True, True, True, False]\n", ""},
		{"print([type(e) is c for e, c in ((print, type(len)), (int, type), (TypeError, type))])\nprint(type('X', (), {}))\n", "[True, True, True]\n", "TypeError"},
	}...)
}

const textRows = `
('aBc\u00e9'.upper(), 'aBC\u00c9'.lower()) => ('ABCé', 'abcÉ')
(' \t\n\ra b ' .strip(), ' a '.lstrip(), ' a '.rstrip(), 'xxaxx'.strip('x'), 'abcba'.lstrip('ab'), 'abcba'.rstrip('ab'), 'a'.strip('')) => ('a b', 'a ', ' a', 'a', 'cba', 'abc', 'a')
(' a  b\tc\n'.split(), ''.split(), 'a,b,,c'.split(','), ''.split(','), 'aXXbXXc'.split('XX')) => (['a', 'b', 'c'], [], ['a', 'b', '', 'c'], [''], ['a', 'b', 'c'])
(','.join(['a', 'b']), ''.join('abc'), '-'.join([]), '-'.join({'x': 1, 'y': 2})) => ('a,b', 'abc', '', 'x-y')
('aaa'.replace('a', 'bb'), 'abc'.replace('x', ''), 'aaa'.replace('aa', 'b')) => ('bbbbbb', 'abc', 'ba')
('hello'.find('l'), 'hello'.find('l', 3), 'hello'.find('l', 4), 'hello'.find('x'), 'hello'.find(''), 'hello'.find('', 9), 'hello'.find('h', -5), 'a\u00e9b'.find('b')) => (2, 3, -1, -1, 0, -1, 0, 2)
('abc'.find('c', True), 'abc'.find('a', 2 ** 70), 'abc'.find('a', -(2 ** 70))) => (2, -1, 0)
('abc'.startswith('ab'), 'abc'.startswith('b'), 'abc'.endswith('bc'), 'abc'.endswith(''), ''.startswith('a')) => (True, False, True, True, False)
'a'.upper(1) => !TypeError
'a'.lower(x=1) => !TypeError
'a'.strip(5) => !TypeError
'a'.strip('a', 'b') => !TypeError
'a'.split('') => !ValueError
'a'.split(None) => !TypeError
'a'.split('a', 1) => !TypeError
','.join([1]) => !TypeError
','.join(5) => !TypeError
','.join() => !TypeError
'a'.replace('', 'b') => !ValueError
'a'.replace('a') => !TypeError
'a'.replace('a', 5) => !TypeError
'a'.replace('a', 'b', 1) => !TypeError
'a'.find() => !TypeError
'a'.find(5) => !TypeError
'a'.find('a', 'b') => !TypeError
'a'.find('a', 1.0) => !TypeError
'a'.startswith(5) => !TypeError
'a'.startswith(('a',)) => !TypeError
'a'.endswith() => !TypeError
'a'.title() => !AttributeError
('a' * 9000).replace('a', 'bb') => !OverflowError
('a' * 9000).join(['', '', '']) => !OverflowError
(1, 2, 1.0).index(2) => 1
(1, 2, True).count(1) => 2
(1,).index(5) => !ValueError
().index() => !TypeError
(1,).append(2) => !AttributeError
[1, 2].index(2.0) => 1
[1].index(2) => !ValueError
[1, 1].index(1, 1) => !TypeError
[1, True, 1.0, 2].count(1) => 3
[].count(1) => 0
[].count() => !TypeError
[].pop() => !IndexError
[1].pop(1) => !IndexError
[1].pop(-2) => !IndexError
[1].pop(2 ** 70) => !IndexError
[1].pop('a') => !TypeError
[1].pop(0, 1) => !TypeError
[1].remove(2) => !ValueError
[1].remove() => !TypeError
[1].insert(1) => !TypeError
[1].insert('a', 2) => !TypeError
[1].insert(None, 2) => !TypeError
[1].append() => !TypeError
[1].extend(5) => !TypeError
[1].extend([], []) => !TypeError
[1].reverse(1) => !TypeError
[1, 'a'].sort() => !TypeError
[1].sort(abs) => !TypeError
[1].sort(other=1) => !TypeError
[1].clear(1) => !TypeError
[1].copy(1) => !TypeError
[[1]].copy() => [[1]]
({1: 2}.get(1), {1: 2}.get(2), {1: 2}.get(2, 3)) => (2, None, 3)
{}.get() => !TypeError
{}.get(1, 2, 3) => !TypeError
{}.get(k=1) => !TypeError
({1: 2, 3: 4}.keys(), {1: 2, 3: 4}.values(), {1: 2, 3: 4}.items(), {}.items()) => ([1, 3], [2, 4], [(1, 2), (3, 4)], [])
{}.keys(1) => !TypeError
{}.values(1) => !TypeError
{}.items(1) => !TypeError
{1: 2}.pop(1) => 2
{1: 2}.pop(2, 5) => 5
{1: 2}.pop(2) => !KeyError: 2
{}.pop([]) => !TypeError
{}.pop() => !TypeError
{}.setdefault([]) => !TypeError
{}.setdefault() => !TypeError
{}.update(5) => !TypeError
{}.update([1]) => !TypeError
{}.update(['abc']) => !ValueError
{}.update({}, {}) => !TypeError
{}.clear(1) => !TypeError
{1: 2}.copy() => {1: 2}
{}.fromkeys([]) => !AttributeError
{1}.add() => !TypeError
{1}.add([]) => !TypeError
{1}.discard([]) => !TypeError
{1}.remove(2) => !KeyError: 2
{1}.remove([]) => !TypeError
{1}.clear(1) => !TypeError
{1, 2}.copy() => {1, 2}
{1}.union({2}) => !AttributeError
`

func methodProgs() []prog {
	return append(rowsOf("", textRows), []prog{
		{"a = [1]\nprint(a.append(2), a.extend((3, 4)), a.insert(0, 0), a.insert(99, 9), a.insert(-1, 8), a)\n", "None None None None None [0, 1, 2, 3, 4, 8, 9]\n", ""},
		{"a = [1, 2, 3, 2]\nprint(a.pop(), a.pop(0), a.pop(True))\na.append(5)\na.remove(2)\nprint(a)\na.clear()\nprint(a)\n", "2 1 3\n[5]\n[]\n", ""},
		{"a = [3, 1, 2]\na.sort()\nprint(a)\na.sort(reverse=True)\nprint(a)\na.sort(key=lambda x: -x % 3)\nprint(a)\na.reverse()\nprint(a, a.copy() == a, a.copy() is a)\n", "[1, 2, 3]\n[3, 2, 1]\n[3, 2, 1]\n[1, 2, 3] True False\n", ""},
		{"a = [3, 1, 2]\ndef k(x):\n  a.append(x)\n  return x\na.sort(key=k)\nprint(a)\n", "[1, 2, 3]\n", ""},
		{"a = [2, 1, 'x']\ntry: a.sort()\nexcept TypeError: print(a)\n", "[2, 1, 'x']\n", ""},
		{"d = {1: 2}\nprint(d.setdefault(1, 5), d.setdefault(3, 4), d.setdefault(5), d)\nprint(d.pop(1), d.pop(9, None), d)\nd.update({3: 0}, a=1)\nd.update([(7, 8)])\nd.update(b=2)\nd.update()\nprint(d)\nd.clear()\nprint(d, d.copy() is d)\n", "2 4 None {1: 2, 3: 4, 5: None}\n2 None {3: 4, 5: None}\n{3: 0, 5: None, 'a': 1, 7: 8, 'b': 2}\n{} False\n", ""},
		{"d = {1: 2}\ntry: d.update([(3, 4), 5])\nexcept TypeError: print(d)\n", "{1: 2, 3: 4}\n", ""},
		{"s = {1}\ns.add(2)\ns.add(1.0)\ns.discard(5)\nprint(s)\ns.discard(1)\ns.remove(2)\nprint(s)\ns.add(3)\ns.clear()\nprint(s)\n", "{1, 2}\nset()\nset()\n", ""},
		{"class A:\n  def __eq__(self, o):\n    a.clear()\n    return True\na = [A(), 1]\nprint(a.remove(5), a, [A()].index(1))\n", "None [] 0\n", ""},
		{"class A:\n  def __eq__(self, o):\n    if len(a) < 4: a.append(5)\n    return False\na = [A()]\nprint(a.count(5), a)\n", "1 [<A>, 5]\n", ""},
		{"d = {}\nfor i in range(20): d[i] = i\nfor i in range(0, 20, 2): del d[i]\nd[0] = 'new'\nprint(d, list(d) == d.keys(), len(d))\n", "{1: 1, 3: 3, 5: 5, 7: 7, 9: 9, 11: 11, 13: 13, 15: 15, 17: 17, 19: 19, 0: 'new'} True 11\n", ""},
	}...)
}

const formatRows = `
f'{5}' => '5'
f'{5:3}|{5:<3}|{5:^3}|{5:>3}|{5:03}|{5:+}|{5:x}|{5:b}|{5:o}|{5:d}' => '  5|5  | 5 |  5|005|+5|5|101|5|5'
f'{1234567:,}|{-5:=5}|{-5:*^6}' => '1,234,567|-   5|**-5**'
f'{1.5}|{1.5:f}|{1.5:.1f}|{1.25:.1f}|{2.5:.0f}|{1.5:8}' => '1.5|1.500000|1.5|1.2|2|     1.5'
f'{s}|{s:6}|{s:>6}|{s:.2}|{s:s}|{s!r:8}|{s!s:.1}' => "text|text  |  text|te|text|'text'  |t"
f'{True}|{True:d}|{True:3}|{False!s:6}|' => 'True|1|  1|False |'
f'{None}|{[1]}|{None!s:5}|{[1]!r:4}|' => 'None|[1]|None |[1] |'
f'{E(5)}|{E(5)!r}|{A()}|{A()!r}' => '5|E(5)|as|ar'
f'{n}|{n:5}|{-n}' => 'nan|  nan|nan'
f'{5:y}' => !ValueError
f'{5:.2}' => !ValueError
f'{s:d}' => !ValueError
f'{s:=5}' => !ValueError
f'{1.5:x}' => !ValueError
f'{1.5:.2}' => !ValueError
f'{None:5}' => !TypeError
f'{[1]:5}' => !TypeError
f'{A():5}' => !TypeError
f'{s:9999}{s:9999}' => !OverflowError
f'{big}a' => !OverflowError
len(f'{big}') => 16384
f'{1 / 0}' => !ZeroDivisionError
f'{len(s)}{s[0]}{d}{(1, 2)}' => "4t{'k': 1}(1, 2)"
`

func formatProgs() []prog {
	before := "s = 'text'\nn = float('nan')\nd = {'k': 1}\nbig = 'a' * 16384\nclass E(Exception): pass\nclass A:\n  def __str__(self): return 'as'\n  def __repr__(self): return 'ar'\n"
	return rowsOf(before, formatRows)
}

func TestP10Builtins(t *testing.T) { wantProgs(t, builtinProgs()) }

func TestP10Methods(t *testing.T) { wantProgs(t, methodProgs()) }

func TestP10Formats(t *testing.T) { wantProgs(t, formatProgs()) }
