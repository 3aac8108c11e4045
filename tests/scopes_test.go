package tests

import (
	"strings"
	"testing"

	"loop.example/g00009/impl"
)

func TestP6OrdinaryPrograms(t *testing.T) {
	wantScopes(t, "", "File")
	wantScopes(t, "pass", "File")
	wantScopes(t, "print(a.b, c=d)", "File: a=G d=G print=G")
	wantScopes(t, "def count(start=zero):\n  n = start\n  def next(by=1):\n    nonlocal n\n    n += by\n    return n\n  return next\nc = count()\n",
		"File: c=G count=G zero=G", "Def:count<0: n=C next=L start=L", "Def:next<1: by=L n=F")
	wantScopes(t, "class A(B):\n  x = 1\n  def f(self):\n    return x, self.x, super(A, self).f()\n  y = [x for i in range(x)]\n",
		"File: A=G B=G", "Class:A<0: f=K range=G x=K y=K", "Def:f<1: A=G self=L super=G x=G", "ListComp<1: i=L x=G")
	wantScopes(t, "def walk(t):\n  if t:\n    yield from walk(t.left)\n    yield t.value\ntotal = sum(v * v for v in walk(root) if v)\n",
		"File: root=G sum=G total=G walk=G", "Def:walk<0 gen: t=L walk=G", "GenExp<0 gen: v=L")
	wantScopes(t, "def f(a):\n  global n\n  n = a\n  return lambda b: a + b + n + c\n",
		"File: f=G", "Def:f<0: a=C n=G", "Lambda<1: a=F b=L c=G n=G")
	wantScopes(t, "match p:\n  case Point(x=0, y=y) | [y]:\n    print(f'{y!r:>3}{p}')\n  case _: pass", "File: Point=G p=G print=G y=G")
}

// wrapping is a text with a hole, and what is told of its scope: the names that
// it has itself, and the one that it binds around.
type wrapping struct {
	text  string
	word  string
	names string
	binds string
}

func wrappings() []wrapping {
	return []wrapping{
		{"def f():\n  HOLE", "Def:f", "", "f"}, {"class K:\n  HOLE", "Class:K", "", "K"}, {"(lambda: HOLE)", "Lambda", "", ""},
		{"[HOLE for i in 0]", "ListComp", "i=L", ""}, {"{HOLE for i in 0}", "SetComp", "i=L", ""}, {"{0: HOLE for i in 0}", "DictComp", "i=L", ""}, {"(HOLE for i in 0)", "GenExp", "i=L", ""},
	}
}

// told is what is told of the scope, within another, with a name that is bound in
// it by what is in the hole.
func (w wrapping) told(up string, binds string) string {
	out := w.word + "<" + up
	if w.word == "GenExp" {
		out += " gen"
	}
	names := w.names
	if binds != "" {
		names = binds + map[string]string{"Def:f": "=L", "Class:K": "=K"}[w.word]
	}
	if names != "" {
		out += ": " + names
	}
	return out
}

func bindsInFile(name string) string {
	if name != "" {
		return "File: " + name + "=G"
	}
	return "File"
}

func TestP6EachScopeInEachOther(t *testing.T) {
	for _, outer := range wrappings() {
		wantScopes(t, strings.Replace(outer.text, "HOLE", "0", 1), bindsInFile(outer.binds), outer.told("0", ""))
		for _, inner := range wrappings() {
			if inner.binds != "" && outer.binds == "" {
				// A statement, which no expression can have.
				continue
			}
			within := strings.ReplaceAll(inner.text, "\n", "\n  ")
			wantScopes(t, strings.Replace(outer.text, "HOLE", strings.Replace(within, "HOLE", "0", 1), 1),
				bindsInFile(outer.binds), outer.told("0", inner.binds), inner.told("1", ""))
		}
	}
}

func TestP6Preorder(t *testing.T) {
	// Of a def the parameters stand ahead of the block, the decorators behind it.
	wantScopes(t, "@(lambda a: 0)\n@(lambda b: 0)\ndef f(p=lambda c: 0, *q, r=lambda d: 0):\n  lambda e: 0\nlambda g: 0",
		"File: f=G", "Def:f<0: p=L q=L r=L", "Lambda<0: c=L", "Lambda<0: d=L", "Lambda<1: e=L", "Lambda<0: a=L", "Lambda<0: b=L", "Lambda<0: g=L")
	wantScopes(t, "@(lambda a: 0)\nclass K((lambda b: 0), x=lambda c: 0):\n  lambda e: 0",
		"File: K=G", "Class:K<0", "Lambda<0: b=L", "Lambda<0: c=L", "Lambda<1: e=L", "Lambda<0: a=L")
	wantScopes(t, "lambda a=lambda b: 0: lambda c: 0", "File", "Lambda<0: a=L", "Lambda<0: b=L", "Lambda<1: c=L")
	// The test of a condition stands ahead of its sides.
	wantScopes(t, "(lambda a: 0) if (lambda b: 0) else lambda c: 0", "File", "Lambda<0: b=L", "Lambda<0: a=L", "Lambda<0: c=L")
	wantScopes(t, "[(lambda a: 0) for i[lambda b: 0] in (lambda c: 0) if (lambda d: 0) for j in (lambda e: 0)]",
		"File", "ListComp<0: i=G j=L", "Lambda<1: a=L", "Lambda<1: b=L", "Lambda<0: c=L", "Lambda<1: d=L", "Lambda<1: e=L")
	wantScopes(t, "{(lambda a: 0): lambda b: 0 for i in lambda_}", "File: lambda_=G", "DictComp<0: i=L", "Lambda<1: a=L", "Lambda<1: b=L")
	// Targets stand ahead of the value.
	wantScopes(t, "x[lambda a: 0] = y = lambda b: 0", "File: x=G y=G", "Lambda<0: a=L", "Lambda<0: b=L")
	wantScopes(t, "def f():\n  def g():\n    def h(): pass\n  class K:\n    def m(self): pass\ndef e(): pass",
		"File: e=G f=G", "Def:f<0: K=L g=L", "Def:g<1: h=L", "Def:h<2", "Class:K<1: m=K", "Def:m<4: self=L", "Def:e<0")
}

func TestP6NodesOfScopes(t *testing.T) {
	for src, want := range map[string][]int64{
		"":                              {0},
		"pass":                          {1},
		"a\ndef f(): pass":              {6, 5},
		"lambda: 1":                     {4, 2},
		"[i for i in j]":                {6, 4},
		"class K: pass":                 {4, 3},
		"lambda: lambda a: {b}":         {8, 6, 5},
		"[(a for a in b) for c in d]":   {10, 8, 4},
		"def f(a=lambda: 0): lambda: 1": {11, 10, 2, 7},
	} {
		list, fault := impl.Scopes(parsed(t, src))
		if fault.Code != 0 || len(list) != len(want) {
			t.Errorf("%q: fault %v, %d scopes", src, fault, len(list))
			continue
		}
		for i, s := range list {
			if s.Node != want[i] {
				t.Errorf("%q: scope %d is of node %d; wanted %d", src, i, s.Node, want[i])
			}
		}
	}
}

func TestP6KindsOfScopes(t *testing.T) {
	list, _ := impl.Scopes(parsed(t, "def f(): pass\nlambda: 0\nclass K: pass\n[0 for i in a]\n{0 for i in a}\n{0: 0 for i in a}\n(0 for i in a)"))
	for i, want := range []int64{0, 1, 1, 2, 3, 3, 3, 3} {
		if len(list) != 8 || list[i].Kind != want || list[i].Up != min(0, int64(i)-1) {
			t.Fatal(list)
		}
	}
	for i, word := range []int64{impl.ScModule, impl.ScFunction, impl.ScClass, impl.ScComp} {
		if word != int64(i) {
			t.Error("the kind of number", i, "is", word)
		}
	}
	for i, word := range []int64{impl.HowLocal, impl.HowCell, impl.HowFree, impl.HowGlobal, impl.HowClass} {
		if word != int64(i)+1 {
			t.Error("the way of number", i+1, "is", word)
		}
	}
}

func TestP6NamesAscendBytewise(t *testing.T) {
	wantScopes(t, "b, a1, a, _, Z, ab, B, _a, A, a_, aB", "File: A=G B=G Z=G _=G _a=G a=G a1=G aB=G a_=G ab=G b=G")
	wantScopes(t, "def z(y, x, *, w, **v): u, Y, z1, z, _", "File: z=G", "Def:z<0: Y=G _=G u=G v=L w=L x=L y=L z=G z1=G")
	// Each once, however often and in how many ways it comes.
	wantScopes(t, "def f(a):\n  a = a\n  a += a\n  for a in a: del a\n  lambda: a\n  lambda: a", "File: f=G", "Def:f<0: a=C", "Lambda<1: a=F", "Lambda<1: a=F")
	wantScopes(t, "def f():\n  global a, a\n  global a\n  a = a", "File: f=G", "Def:f<0: a=G")
}

func TestP6Generators(t *testing.T) {
	wantScopes(t, "def f(): yield", "File: f=G", "Def:f<0 gen")
	wantScopes(t, "def f(): yield from a", "File: f=G", "Def:f<0 gen: a=G")
	wantScopes(t, "def f(): x = yield a", "File: f=G", "Def:f<0 gen: a=G x=L")
	wantScopes(t, "def f(): return g((yield), f'{(yield from a)}')", "File: f=G", "Def:f<0 gen: a=G g=G")
	wantScopes(t, "def f():\n  if a:\n    while b:\n      try: pass\n      finally: yield", "File: f=G", "Def:f<0 gen: a=G b=G")
	wantScopes(t, "lambda: (yield)", "File", "Lambda<0 gen")
	wantScopes(t, "lambda: (yield from a)", "File", "Lambda<0 gen: a=G")
	// One in an inner function alone, and one of the outer alone.
	wantScopes(t, "def f():\n  def g(): yield", "File: f=G", "Def:f<0: g=L", "Def:g<1 gen")
	wantScopes(t, "def f(): lambda: (yield)", "File: f=G", "Def:f<0", "Lambda<1 gen")
	wantScopes(t, "def f():\n  yield\n  def g(): pass\n  lambda: 0", "File: f=G", "Def:f<0 gen: g=L", "Def:g<1", "Lambda<1")
	wantScopes(t, "class K:\n  def f(self): yield", "File: K=G", "Class:K<0: f=K", "Def:f<1 gen: self=L")
	// What belongs to the scope around is its yield.
	wantScopes(t, "def f():\n  def g(a=(yield)): pass", "File: f=G", "Def:f<0 gen: g=L", "Def:g<1: a=L")
	wantScopes(t, "def f(): lambda a=(yield): 0", "File: f=G", "Def:f<0 gen", "Lambda<1: a=L")
	wantScopes(t, "def f():\n  @(yield)\n  def g(): pass", "File: f=G", "Def:f<0 gen: g=L", "Def:g<1")
	wantScopes(t, "def f():\n  @(yield)\n  class K((yield), x=(yield)): pass", "File: f=G", "Def:f<0 gen: K=L", "Class:K<1")
	wantScopes(t, "def f(): [i for i in (yield)]", "File: f=G", "Def:f<0 gen", "ListComp<1: i=L")
	wantScopes(t, "lambda: lambda a=(yield): 0", "File", "Lambda<0 gen", "Lambda<1: a=L")
	// Of comprehensions the generator expression alone.
	wantScopes(t, "(i for i in a), [i for i in a], {i for i in a}, {i: i for i in a}", "File: a=G", "GenExp<0 gen: i=L", "ListComp<0: i=L", "SetComp<0: i=L", "DictComp<0: i=L")
	wantScopes(t, "f(i for i in a)", "File: a=G f=G", "GenExp<0 gen: i=L")
	wantScopes(t, "def f(): return (i for i in a)", "File: f=G", "Def:f<0: a=G", "GenExp<1 gen: i=L")
}
