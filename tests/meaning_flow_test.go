package tests

import (
	"fmt"
	"math/rand"
	"strings"
	"testing"

	"loop.example/g00009/impl"
)

// finallyProgs have a finally on each way out of its block.
func finallyProgs() []prog {
	return []prog{
		{"try: print('block')\nfinally: print('finally')\nprint('on')\n", "block\nfinally\non\n", ""},
		{"try: 1 / 0\nfinally: print('finally')\nprint('no')\n", "finally\n", "ZeroDivisionError"},
		{"def f():\n  try: return 'value'\n  finally: print('finally')\nprint(f())\n", "finally\nvalue\n", ""},
		{"for i in (1, 2, 3):\n  try:\n    if i == 1: continue\n    if i == 2: break\n  finally: print('finally', i)\nprint('on', i)\n", "finally 1\nfinally 2\non 2\n", ""},
		{"i = 0\nwhile i < 3:\n  i += 1\n  try:\n    if i == 1: continue\n    break\n  finally: print('finally', i)\nelse: print('no')\n", "finally 1\nfinally 2\n", ""},
		{"try:\n  try: 1 / 0\n  except ZeroDivisionError: print('handled')\n  else: print('no')\n  finally: print('finally')\nfinally: print('outer')\n", "handled\nfinally\nouter\n", ""},
		{"try:\n  try: 1 / 0\n  except KeyError: print('no')\n  finally: print('finally')\nexcept ZeroDivisionError: print('outer')\n", "finally\nouter\n", ""},
		{"try:\n  try: 1 / 0\n  except ZeroDivisionError: {}['k']\n  finally: print('finally')\nexcept KeyError as e: print('outer', e)\n", "finally\nouter k\n", ""},
		{"try:\n  try: print('block')\n  except KeyError: print('no')\n  else: {}['k']\n  finally: print('finally')\nexcept KeyError: print('outer')\n", "block\nfinally\nouter\n", ""},
		{"try: print('block')\nexcept KeyError: print('no')\nelse: print('else')\nfinally: print('finally')\n", "block\nelse\nfinally\n", ""},
		{"def f():\n  try: return 1\n  except KeyError: pass\n  else: print('no')\n  finally: print('finally')\nprint(f())\n", "finally\n1\n", ""},
		{"def f():\n  try: return 1\n  finally: return 2\nprint(f())\n", "2\n", ""},
		{"def f():\n  try: 1 / 0\n  finally: return 2\nprint(f())\n", "2\n", ""},
		{"for i in (1, 2):\n  try: 1 / 0\n  finally: continue\nprint('on')\nfor i in (1, 2):\n  try: 1 / 0\n  finally: break\nprint(i)\n", "on\n1\n", ""},
		{"def f():\n  for i in (1, 2):\n    try: return i\n    finally:\n      print('finally', i)\n      if i == 1: continue\n      break\n  return 'end'\nprint(f())\n", "finally 1\nfinally 2\nend\n", ""},
		{"def f():\n  try: return 1\n  finally:\n    for i in (1,):\n      try: return 2\n      finally: break\nprint(f())\n", "1\n", ""},
		{"def f():\n  try:\n    try: return 1\n    finally: print('inner')\n  finally: print('outer')\nprint(f())\n", "inner\nouter\n1\n", ""},
		{"try:\n  try: 1 / 0\n  finally: {}['k']\nexcept Exception as e: print(type(e).__name__, e.__context__)\n", "KeyError None\n", ""},
		{"try:\n  try: raise ValueError(1)\n  finally:\n    try: raise KeyError(2)\n    except KeyError: print('inner')\nexcept ValueError as e: print(e)\n", "inner\n1\n", ""},
		{"def f():\n  try: raise ValueError\n  except ValueError: return 'handler'\n  finally: print('finally')\nprint(f())\n", "finally\nhandler\n", ""},
		{"def f():\n  for i in range(2):\n    try: raise ValueError\n    except ValueError: continue\n    finally: print('finally', i)\n  else: return 'else'\nprint(f())\n", "finally 0\nfinally 1\nelse\n", ""},
		{"def f(n):\n  try:\n    if n: f(n - 1)\n    else: 1 / 0\n  finally: print('finally', n)\ntry: f(2)\nexcept ZeroDivisionError: print('caught')\n", "finally 0\nfinally 1\nfinally 2\ncaught\n", ""},
		{"class C:\n  try: x = 1\n  finally: y = 2\nprint(C.x, C.y)\n", "1 2\n", ""},
		{"x = []\ndef f():\n  try: return x\n  finally: x.append(1)\nprint(f())\ndef g():\n  y = 1\n  try: return y\n  finally: y = 2\nprint(g())\n", "[1]\n1\n", ""},
		{"try:\n  import m\nfinally: print('finally')\n# module m\ntry: 1 / 0\nfinally: print('in m')\n", "in m\nfinally\n", "ZeroDivisionError"},
		{"try: pass\nexcept 5: pass\ntry: 1 / 0\nexcept 5: print('no')\n", "", "TypeError"},
		{"try: 1 / 0\nexcept (KeyError, 5): print('no')\n", "", "TypeError"},
		{"try: 1 / 0\nexcept (ArithmeticError, 5): print('first')\n", "first\n", ""},
		{"try: 1 / 0\nexcept (KeyError, (ArithmeticError,)): print('no')\n", "", "TypeError"},
		{"try: 1 / 0\nexcept [ArithmeticError]: print('no')\n", "", "TypeError"},
		{"try: 1 / 0\nexcept int: print('no')\n", "", "TypeError"},
		{"try: 1 / 0\nexcept (): print('no')\nexcept: print('all')\n", "all\n", ""},
		{"try: 1 / 0\nexcept missing: print('no')\n", "", "NameError"},
		{"e = 'old'\ntry: 1 / 0\nexcept ZeroDivisionError as e: print(type(e).__name__)\ne\n", "ZeroDivisionError\n", "NameError"},
		{"try: 1 / 0\nexcept ZeroDivisionError as e: del e\nprint('on')\ntry: 1 / 0\nexcept ZeroDivisionError as e:\n  e = 5\ntry: e\nexcept NameError: print('unbound')\n", "on\nunbound\n", ""},
		{"def f():\n  for i in (1, 2):\n    try: 1 / 0\n    except ZeroDivisionError as e: continue\n  e\nf()\n", "", "NameError"},
		{"def f():\n  try: 1 / 0\n  except ZeroDivisionError as e:\n    g = lambda: e\n    print(type(g()).__name__)\n  return g\nf()()\n", "ZeroDivisionError\n", "NameError"},
	}
}

const countingGen = "def g(n=3):\n  try:\n    for i in range(n):\n      try:\n        x = yield i\n        print('sent', x)\n      except ValueError as e: print('thrown', e)\n    return 'answer'\n  finally: print('finally')\n"

func generatorProgs() []prog {
	list := []prog{
		{"i = g(2)\nprint(next(i))\nprint(next(i))\nnext(i)\n", "0\nsent None\n1\nsent None\nfinally\n", "StopIteration: answer"},
		{"i = g(1)\nprint(i.send(None))\ni.send('v')\n", "0\nsent v\nfinally\n", "StopIteration: answer"},
		{"i = g()\ni.send(1)\n", "", "TypeError"},
		{"i = g()\ntry: i.send(1)\nexcept TypeError: print(next(i))\n", "0\n", ""},
		{"i = g(2)\nnext(i)\nprint(i.throw(ValueError(5)))\nprint(i.throw(ValueError))\n", "thrown 5\n1\nthrown \nfinally\n", "StopIteration: answer"},
		{"i = g(2)\nnext(i)\ni.throw(KeyError('k'))\n", "finally\n", "KeyError: k"},
		{"i = g(2)\ntry: i.throw(KeyError('k'))\nexcept KeyError: print('out')\nnext(i)\n", "out\n", "StopIteration"},
		{"i = g(0)\nlist(i)\ntry: i.throw(KeyError('k'))\nexcept KeyError: print('out')\nnext(i)\n", "finally\nout\n", "StopIteration: answer"},
		{"i = g()\ni.throw(5)\n", "", "TypeError"},
		{"i = g()\ni.throw(int)\n", "", "TypeError"},
		{"i = g()\ni.throw()\n", "", "TypeError"},
		{"i = g()\ni.throw(KeyError, 1)\n", "", "TypeError"},
		{"i = g()\ni.send()\n", "", "TypeError"},
		{"i = g()\ni.close(1)\n", "", "TypeError"},
		{"i = g()\nprint(next(i), i.close(), i.close())\nnext(i)\n", "finally\n0 None None\n", "StopIteration"},
		{"i = g()\nprint(i.close())\nprint(list(i), next(i, 'd'))\nnext(i)\n", "None\n[] d\n", "StopIteration"},
		{"print(list(g()), [*g(1)], tuple(g(0)))\n", "sent None\nsent None\nsent None\nfinally\nsent None\nfinally\nfinally\n[0, 1, 2] [0] ()\n", ""},
		{"i = g(1)\nfor x in i: print('x', x)\nprint(list(i), next(i, 'd'))\ntry: next(i)\nexcept StopIteration as e: print(e.args, e.value)\ntry: i.send(None)\nexcept StopIteration as e: print(e.args, e.value)\n", "x 0\nsent None\nfinally\n[] d\n('answer',) answer\n() None\n", ""},
		{"for x in g():\n  print(x)\n  break\nprint('not closed')\n", "0\nnot closed\n", ""},
		{"i = g()\na, b, c = i\nprint(a, b, c)\n", "sent None\nsent None\nsent None\nfinally\n0 1 2\n", ""},
		{"def h():\n  v = yield from g(2)\n  print('value', v)\n  yield 'last'\ni = h()\nprint(next(i), i.send('s'), i.throw(ValueError('t')))\ni.close()\n", "sent s\nthrown t\nfinally\nvalue answer\n0 1 last\n", ""},
		{"def h():\n  try: yield from g()\n  finally: print('outer')\ni = h()\nnext(i)\ni.close()\n", "finally\nouter\n", ""},
		{"def h():\n  try: yield from g()\n  except KeyError as e: print('caught', e)\n  yield 'on'\ni = h()\nnext(i)\nprint(i.throw(KeyError('k')))\n", "finally\ncaught k\non\n", ""},
		{"def h():\n  x = g(1)\n  list(x)\n  print((yield from x))\n  print((yield from x))\nlist(h())\n", "sent None\nfinally\nanswer\nNone\n", ""},
		{"def h():\n  yield from [1, 2]\ni = h()\nprint(next(i))\ni.send(5)\n", "1\n", "AttributeError"},
		{"def h():\n  try: yield from [1, 2]\n  except ValueError: yield 'here'\ni = h()\nnext(i)\nprint(i.throw(ValueError), list(i))\n", "here []\n", ""},
		{"def h():\n  try: yield from [1, 2]\n  finally: print('closed')\ni = h()\nnext(i)\ni.close()\n", "closed\n", ""},
		{"def h(): yield from 5\nnext(h())\n", "", "TypeError"},
		{"class I:\n  def __iter__(self): return self\n  def __next__(self): return 'next'\n  def send(self, v):\n    if v == 'end': raise StopIteration('stop', 1)\n    return ('sent', v)\ndef h(): print('value', (yield from I()))\ni = h()\nprint(next(i), i.send(1), i.send(None), i.send('end'))\n", "value stop\n", "StopIteration"},
		{"class I:\n  n = 0\n  def __iter__(self): return self\n  def __next__(self):\n    self.n += 1\n    if self.n > 2: raise StopIteration\n    return self.n\n  def throw(self, e): print('no')\n  def close(self): print('no')\ndef h():\n  try: print('value', (yield from I()))\n  except KeyError: print('caught')\ni = h()\nprint(list(i))\ni = h()\nnext(i)\nprint(next(i, 'd'))\nj = h()\nnext(j)\nprint(j.throw(KeyError))\n", "value None\n[1, 2]\n2\ncaught\n", "StopIteration"},
		{"def h():\n  try:\n    yield 1\n  except GeneratorExit: print('exit')\ni = h()\nnext(i)\nprint(i.close())\n", "exit\nNone\n", ""},
		{"def h():\n  try: yield 1\n  except GeneratorExit: return 'answer'\ni = h()\nnext(i)\ni.close()\nnext(i)\n", "", "StopIteration"},
		{"def h():\n  try: yield 1\n  finally: yield 2\ni = h()\nnext(i)\ntry: i.close()\nexcept RuntimeError: print('yields')\nprint(list(i))\n", "yields\n", "GeneratorExit"},
		{"def h():\n  try: yield 1\n  finally: 1 / 0\ni = h()\nnext(i)\ni.close()\n", "", "ZeroDivisionError"},
		{"def h():\n  try: yield 1\n  finally: return 5\ni = h()\nnext(i)\ni.throw(KeyError)\n", "", "StopIteration: 5"},
		{"class X(GeneratorExit): pass\ndef h():\n  try: yield 1\n  except GeneratorExit: raise X\ni = h()\nnext(i)\nprint(i.close())\n", "None\n", ""},
		{"def h(): raise StopIteration(5)\n  # no generator\ndef k():\n  yield 1\n  h()\ni = k()\nnext(i)\ntry: next(i)\nexcept RuntimeError as e: print(repr(e.__cause__), e.__cause__ is e.__context__, e.args)\nnext(i, print('ended'))\n", "StopIteration(5) True ()\nended\n", ""},
		{"i = (next(iter([])) for x in [1])\nnext(i)\n", "", "RuntimeError"},
		{"i = (x for x in iter([1]) if next(iter(())))\nlist(i)\n", "", "RuntimeError"},
		{"def h():\n  yield 1\n  next(i)\n  yield 2\ni = h()\nnext(i)\nnext(i)\n", "", "ValueError"},
		{"def h():\n  try:\n    yield 1\n    i.close()\n  except ValueError: print('runs')\n  try: i.throw(KeyError)\n  except ValueError: print('runs')\n  try: i.send(1)\n  except ValueError: print('runs')\n  yield 2\ni = h()\nnext(i)\nprint(next(i))\n", "runs\nruns\nruns\n2\n", ""},
		{"def h():\n  yield from i\ni = h()\nnext(i)\n", "", "ValueError"},
		{"def h():\n  yield 1\n  raise KeyError('k')\ni = h()\nnext(i)\ntry: next(i)\nexcept KeyError: print('out')\nprint(list(i))\nnext(i)\n", "out\n[]\n", "StopIteration"},
		{"def h():\n  while True:\n    try: x = yield\n    except KeyError: print('key')\n    else: print(x)\ni = h()\nnext(i)\ni.send(1)\ni.throw(KeyError)\ni.send(2)\n", "1\nkey\n2\n", ""},
		{"def fib():\n  a, b = 0, 1\n  while True:\n    yield a\n    a, b = b, a + b\ni = fib()\nprint([next(i) for x in range(10)])\n", "[0, 1, 1, 2, 3, 5, 8, 13, 21, 34]\n", ""},
		{"def perms(a):\n  if not a: yield []\n  for i, x in enumerate(a):\n    for p in perms(a[:i] + a[i + 1:]): yield [x] + p\nprint(list(perms([1, 2, 3])))\n", "[[1, 2, 3], [1, 3, 2], [2, 1, 3], [2, 3, 1], [3, 1, 2], [3, 2, 1]]\n", ""},
		{"def h(n):\n  if n:\n    yield n\n    yield from h(n - 1)\n    return n\nprint(list(h(5)))\n", "[5, 4, 3, 2, 1]\n", ""},
		{"def h(): yield 1\ni = h()\nprint(i is iter(i), i in [i], i == h(), bool(i), {i: 1}[i])\n", "True True False True 1\n", ""},
		{"def h(): return 5\n  # the yield is never reached\ndef k():\n  return 6\n  yield\nnext(k())\n", "", "StopIteration: 6"},
		{"def h():\n  try: yield 1\n  except KeyError as e:\n    yield 2\n    raise\ni = h()\nnext(i)\ni.throw(KeyError('k'))\ntry: 1 / 0\nexcept ZeroDivisionError:\n  next(i)\n", "", "KeyError: k"},
	}
	for i := range list {
		list[i].src = countingGen + list[i].src
	}
	return list
}

const managers = "class M:\n  def __init__(self, answer=None, name='m'):\n    self.answer = answer\n    self.name = name\n  def __enter__(self):\n    print('enter', self.name)\n    return self.name\n  def __exit__(self, c, e, t):\n    print('exit', self.name, c, repr(e), t)\n    return self.answer\n"

func withProgs() []prog {
	list := []prog{
		{"with M() as x: print('block', x)\nprint('on')\n", "enter m\nblock m\nexit m None None None\non\n", ""},
		{"with M(True): print('block')\n", "enter m\nblock\nexit m None None None\n", ""},
		{"with M(): {}['k']\nprint('no')\n", "enter m\nexit m <class KeyError> KeyError('k') None\n", "KeyError: k"},
		{"with M(1): {}['k']\nprint('on')\n", "enter m\nexit m <class KeyError> KeyError('k') None\non\n", ""},
		{"with M([]): 1 / 0\n", "enter m\nexit m <class ZeroDivisionError> ZeroDivisionError() None\n", "ZeroDivisionError"},
		{"def f():\n  with M(1): return 5\nprint(f())\n", "enter m\nexit m None None None\n5\n", ""},
		{"for i in (1, 2):\n  with M(1):\n    if i == 1: continue\n    break\nelse: print('no')\nprint(i)\n", "enter m\nexit m None None None\nenter m\nexit m None None None\n2\n", ""},
		{"with M(name='a') as x, M(1, 'b') as y:\n  print(x, y)\n  1 / 0\nprint('on')\n", "enter a\nenter b\na b\nexit b <class ZeroDivisionError> ZeroDivisionError() None\nexit a None None None\non\n", ""},
		{"with M(1, 'a'), M(0, 'b'): 1 / 0\n", "enter a\nenter b\nexit b <class ZeroDivisionError> ZeroDivisionError() None\nexit a <class ZeroDivisionError> ZeroDivisionError() None\n", ""},
		{"with M(1) as (a, b): print('no')\nprint('on')\n", "enter m\nexit m <class ValueError> ValueError() None\non\n", ""},
		{"d = {}\nwith M(0, 'xy') as (a, d['k']): print(a, d)\n", "enter xy\nx {'k': 'y'}\nexit xy None None None\n", ""},
		{"class X(M):\n  def __exit__(self, c, e, t): raise ValueError('exit')\nwith X(): 1 / 0\n", "enter m\n", "ValueError: exit"},
		{"class X(M):\n  def __exit__(self, c, e, t): raise ValueError('exit')\nwith X(): pass\n", "enter m\n", "ValueError: exit"},
		{"class X(M):\n  def __enter__(self): raise ValueError('enter')\nwith X(): print('no')\n", "", "ValueError: enter"},
		{"class B:\n  def __bool__(self): return 5\nwith M(B()): 1 / 0\n", "enter m\nexit m <class ZeroDivisionError> ZeroDivisionError() None\n", "TypeError"},
		{"class X:\n  def __enter__(self): print('no')\nwith X(): pass\n", "", "AttributeError"},
		{"class X:\n  def __exit__(self, a, b, c): print('no')\nwith X(): pass\n", "", "AttributeError"},
		{"with 5: pass\n", "", "AttributeError"},
		{"class X: pass\nx = X()\nx.__enter__ = x.__exit__ = lambda *a: 5\nwith x: pass\n", "", "AttributeError"},
		{"class X:\n  @staticmethod\n  def __enter__(): return 's'\n  @classmethod\n  def __exit__(cls, *a): print(cls, a)\nwith X() as s: print(s)\n", "s\n<class X> (None, None, None)\n", ""},
		{"class X(M):\n  def __exit__(self): pass\nwith X(): pass\n", "enter m\n", "TypeError"},
		{"def g():\n  with M() as m: yield m\ni = g()\nprint(next(i))\ni.close()\n", "enter m\nm\nexit m <class GeneratorExit> GeneratorExit() None\n", ""},
		{"def g():\n  with M(1): yield 1\n  print('on')\ni = g()\nnext(i)\nprint(next(i, 'd'))\nj = g()\nnext(j)\nj.throw(KeyError)\n", "enter m\nexit m None None None\non\nd\nenter m\nexit m <class KeyError> KeyError() None\non\n", "StopIteration"},
		{"try:\n  with M(): 1 / 0\nexcept ZeroDivisionError: print('caught')\nfinally: print('finally')\n", "enter m\nexit m <class ZeroDivisionError> ZeroDivisionError() None\ncaught\nfinally\n", ""},
		{"with M():\n  try: 1 / 0\n  except ZeroDivisionError: print('caught')\n", "enter m\ncaught\nexit m None None None\n", ""},
	}
	for i := range list {
		list[i].src = managers + list[i].src
	}
	return list
}

func TestP14Finally(t *testing.T) { wantProgs(t, finallyProgs()) }

func TestP14Generators(t *testing.T) { wantProgs(t, generatorProgs()) }

func TestP14With(t *testing.T) { wantProgs(t, withProgs()) }

// flowWriter writes programs of blocks that say when they begin and when their
// finally or __exit__ is executed.
type flowWriter struct {
	r   *rand.Rand
	out strings.Builder
	n   int
}

func (w *flowWriter) line(deep int, form string, args ...any) {
	w.out.WriteString(strings.Repeat(" ", deep) + fmt.Sprintf(form, args...) + "\n")
}

func (w *flowWriter) block(deep int, left int, loop bool, gen bool) {
	for range 1 + w.r.Intn(3) {
		w.stmt(deep, left, loop, gen)
	}
}

func (w *flowWriter) stmt(deep int, left int, loop bool, gen bool) {
	w.n++
	n := w.n
	if left == 0 {
		w.leaf(deep, loop, gen)
		return
	}
	switch w.r.Intn(5) {
	case 0:
		w.leaf(deep, loop, gen)
	case 1:
		w.line(deep, "for i in range(%d):", w.r.Intn(4))
		w.block(deep+1, left-1, true, gen)
	case 2:
		w.line(deep, "with M(%d):", n)
		w.line(deep+1, "print('begin', %d)", n)
		w.block(deep+1, left-1, loop, gen)
	default:
		w.line(deep, "try:")
		w.line(deep+1, "print('begin', %d)", n)
		w.block(deep+1, left-1, loop, gen)
		for range w.r.Intn(3) {
			w.line(deep, "except %s as e:", w.exception())
			w.block(deep+1, left-1, loop, gen)
		}
		w.line(deep, "finally:")
		w.line(deep+1, "print('end', %d)", n)
		w.block(deep+1, left-1, loop, gen)
	}
}

func (w *flowWriter) exception() string {
	return []string{"ValueError", "KeyError", "LookupError", "Exception", "BaseException"}[w.r.Intn(5)]
}

func (w *flowWriter) leaf(deep int, loop bool, gen bool) {
	switch pick := w.r.Intn(12); {
	case pick < 2:
		w.line(deep, "if t(): raise %s(%d)", w.exception(), w.n)
	case pick < 3:
		w.line(deep, "if t(): return %d", w.n)
	case pick < 5 && loop:
		w.line(deep, "if t(): %s", []string{"break", "continue"}[w.r.Intn(2)])
	case pick < 9 && gen:
		w.line(deep, "x = yield %d", w.n)
	case pick < 10 && gen:
		w.line(deep, "x = yield from (i for i in range(2))")
	default:
		w.line(deep, "pass")
	}
}

// flowProgram calls a function, or makes a generator go on in some way again and
// again and then closes it until it is closed.
func flowProgram(seed int64) string {
	w := &flowWriter{r: rand.New(rand.NewSource(seed))}
	gen := seed%2 == 1
	w.line(0, "seen = [%d]", seed%97)
	w.line(0, "def t():\n  seen[0] = (seen[0] * 5 + 3) %% 101\n  return seen[0] %% 2")
	w.line(0, "class M:\n  def __init__(self, n): self.n = n\n  def __enter__(self): pass\n  def __exit__(self, c, e, x):\n    print('end', self.n)\n    return t()")
	w.line(0, "def f():")
	w.block(1, 3, false, gen)
	if !gen {
		w.line(0, "try: f()\nexcept BaseException: pass")
		return w.out.String()
	}
	w.line(1, "yield")
	w.line(0, "i = f()")
	for range w.r.Intn(6) {
		ask := []string{"next(i)", "i.send(None)", "i.throw(KeyError)", "i.throw(ValueError(1))", "list(zip([1, 2], i))"}[w.r.Intn(5)]
		w.line(0, "try: %s\nexcept BaseException: pass", ask)
	}
	w.line(0, "while True:\n  try:\n    i.close()\n    break\n  except BaseException: pass")
	return w.out.String()
}

func TestP14OnceEach(t *testing.T) {
	t.Parallel()
	ended := 0
	for seed := range int64(1500) {
		src := flowProgram(seed)
		o := meant(src)
		if o.Code == impl.OutRaised || o.Code == impl.OutArgs {
			t.Fatalf("%s\n%s", src, outTold(o))
		}
		if o.Code != impl.OutEnd {
			// Too much of it for a tree, for the budget or for Text.
			continue
		}
		ended++
		counts := map[string]int{}
		open := 0
		for _, line := range strings.Split(strings.TrimSpace(o.Text), "\n") {
			word, n, _ := strings.Cut(line, " ")
			if word == "begin" {
				counts[n]++
				open++
			} else if word == "end" {
				counts[n]--
				open--
			}
			if counts[n] < 0 {
				t.Fatalf("%s\n%s\n ends more often than it begins", src, o.Text)
			}
		}
		if open != 0 {
			t.Fatalf("%s\n%s\n%d did not end", src, o.Text, open)
		}
	}
	if ended < 1000 {
		t.Error("too few came to their end", ended)
	}
}

func TestP10FlowBudgets(t *testing.T) {
	t.Parallel()
	for seed := range int64(150) {
		wantBudgets(t, flowProgram(seed))
		wantShown(t, flowProgram(seed))
	}
}
