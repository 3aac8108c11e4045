package tests

import "testing"

func TestP6ModuleNames(t *testing.T) {
	wantScopes(t, "a = 1\nb\nglobal c, d\nd = 2", "File: a=G b=G c=G d=G")
	// Names that only scopes within have are none of the module's.
	wantScopes(t, "def f():\n  global a\n  a = b", "File: f=G", "Def:f<0: a=G b=G")
	wantScopes(t, "def f(a):\n  def g(): return a", "File: f=G", "Def:f<0: a=C g=L", "Def:g<1: a=F")
	wantScopes(t, "class K: a = b", "File: K=G", "Class:K<0: a=K b=G")
	wantScopes(t, "[a for i in 0]", "File", "ListComp<0: a=G i=L")
	// What the module binds, nothing within has as HowFree.
	wantScopes(t, "a = 1\ndef f(): return a, [a for i in 0]\nclass K:\n  b = a\n  def g(): a\nlambda: a", "File: K=G a=G f=G", "Def:f<0: a=G", "ListComp<1: a=G i=L", "Class:K<0: a=G b=K g=K", "Def:g<3: a=G", "Lambda<0: a=G")
}

func TestP6DeclaredGlobal(t *testing.T) {
	wantScopes(t, "def f():\n  global a\n  a = 1", "File: f=G", "Def:f<0: a=G")
	wantScopes(t, "def f():\n  a = 1\n  global a", "File: f=G", "Def:f<0: a=G")
	wantScopes(t, "def f():\n  a\n  if b: global a", "File: f=G", "Def:f<0: a=G b=G")
	wantScopes(t, "def f(): global a", "File: f=G", "Def:f<0: a=G")
	wantScopes(t, "class K:\n  global a\n  a = b = 1", "File: K=G", "Class:K<0: a=G b=K")
	// Whatever binds it.
	wantScopes(t, "def f():\n  global g, K, m, e, x, i, c, w\n  def g(): pass\n  class K: pass\n  import m\n  try: pass\n  except A as e: pass\n  with x as x: pass\n  for i in 0: pass\n  match 0:\n    case c: (w := 0)",
		"File: f=G", "Def:f<0: A=G K=G c=G e=G g=G i=G m=G w=G x=G", "Def:g<1", "Class:K<1")
	// Beyond a function that binds it.
	wantScopes(t, "def f():\n  a = 1\n  def g():\n    global a\n    a = 2", "File: f=G", "Def:f<0: a=L g=L", "Def:g<1: a=G")
	wantScopes(t, "def f(a):\n  class K:\n    global a\n    b = a", "File: f=G", "Def:f<0: K=L a=L", "Class:K<1: a=G b=K")
}

func TestP6DeclaredNonlocal(t *testing.T) {
	wantScopes(t, "def f():\n  a = 1\n  def g():\n    nonlocal a\n    a = 2", "File: f=G", "Def:f<0: a=C g=L", "Def:g<1: a=F")
	wantScopes(t, "def f():\n  def g():\n    a = 2\n    nonlocal a\n  a = 1", "File: f=G", "Def:f<0: a=C g=L", "Def:g<1: a=F")
	wantScopes(t, "def f(a):\n  def g():\n    a\n    nonlocal a", "File: f=G", "Def:f<0: a=C g=L", "Def:g<1: a=F")
	wantScopes(t, "def f(a):\n  def g(): nonlocal a", "File: f=G", "Def:f<0: a=C g=L", "Def:g<1: a=F")
	wantScopes(t, "def f(a):\n  def g(): nonlocal a, a\n  def h(): nonlocal g", "File: f=G", "Def:f<0: a=C g=C h=L", "Def:g<1: a=F", "Def:h<1: g=F")
	wantScopes(t, "def f(a):\n  class K:\n    nonlocal a\n    a = b = 1", "File: f=G", "Def:f<0: K=L a=C", "Class:K<1: a=F b=K")
	// Beyond functions that have nothing of it, and those that declare it so too.
	wantScopes(t, "def f(a):\n  def g():\n    def h(): nonlocal a", "File: f=G", "Def:f<0: a=C g=L", "Def:g<1: a=F h=L", "Def:h<2: a=F")
	wantScopes(t, "def f(a):\n  def g():\n    nonlocal a\n    def h():\n      nonlocal a\n      a = 1", "File: f=G", "Def:f<0: a=C g=L", "Def:g<1: a=F h=L", "Def:h<2: a=F")
	wantScopes(t, "def f(a):\n  def g(a):\n    def h(): nonlocal a", "File: f=G", "Def:f<0: a=L g=L", "Def:g<1: a=C h=L", "Def:h<2: a=F")
	// Beyond a class, which has it as its own, or as HowFree too.
	wantScopes(t, "def f(a):\n  class K:\n    a = 1\n    def h(self): nonlocal a", "File: f=G", "Def:f<0: K=L a=C", "Class:K<1: a=K h=K", "Def:h<2: a=F self=L")
	wantScopes(t, "def f(a):\n  class K:\n    def h(self): nonlocal a", "File: f=G", "Def:f<0: K=L a=C", "Class:K<1: a=F h=K", "Def:h<2: a=F self=L")
	// One in two scopes, in each otherwise.
	wantScopes(t, "def f(a):\n  def g(): global a\n  def h(): nonlocal a", "File: f=G", "Def:f<0: a=C g=L h=L", "Def:g<1: a=G", "Def:h<1: a=F")
}

func TestP6BoundNames(t *testing.T) {
	wantScopes(t, "def f(): a = 1", "File: f=G", "Def:f<0: a=L")
	wantScopes(t, "class K: a = a", "File: K=G", "Class:K<0: a=K")
	// A scope within that has it as its own, or as a global, does not mean it.
	wantScopes(t, "def f(a):\n  lambda a: a\n  [a for a in 0]\n  def g(): a = 1\n  class K: a = 1\n  def h():\n    global a\n    a", "File: f=G", "Def:f<0: K=L a=L g=L h=L", "Lambda<1: a=L", "ListComp<1: a=L", "Def:g<1: a=L", "Class:K<1: a=K", "Def:h<1: a=G")
	// Each kind of scope within that does.
	for within, told := range map[string]string{"lambda: a": "Lambda<1: a=F", "[a for i in 0]": "ListComp<1: a=F i=L", "{a for i in 0}": "SetComp<1: a=F i=L", "{a: 0 for i in 0}": "DictComp<1: a=F i=L", "(a for i in 0)": "GenExp<1 gen: a=F i=L"} {
		wantScopes(t, "def f(a): "+within, "File: f=G", "Def:f<0: a=C", told)
		wantScopes(t, "lambda a: ("+within+")", "File", "Lambda<0: a=C", told)
		wantScopes(t, "[("+within+") for a in 0]", "File", "ListComp<0: a=C", told)
		wantScopes(t, "{("+within+") for a in 0}", "File", "SetComp<0: a=C", told)
		wantScopes(t, "{0: ("+within+") for a in 0}", "File", "DictComp<0: a=C", told)
		wantScopes(t, "(("+within+") for a in 0)", "File", "GenExp<0 gen: a=C", told)
	}
	wantScopes(t, "def f(a):\n  def g(): a", "File: f=G", "Def:f<0: a=C g=L", "Def:g<1: a=F")
	wantScopes(t, "def f(a):\n  class K: a", "File: f=G", "Def:f<0: K=L a=C", "Class:K<1: a=F")
	// A class holds nothing for what is in it.
	wantScopes(t, "class K:\n  a = 1\n  def f(): a\n  lambda: a\n  [a for i in 0]\n  class L: a", "File: K=G", "Class:K<0: L=K a=K f=K", "Def:f<1: a=G", "Lambda<1: a=G", "ListComp<1: a=G i=L", "Class:L<1: a=G")
}

func TestP6UsedNames(t *testing.T) {
	// The nearest one around that binds it.
	wantScopes(t, "def f(a):\n  def g(a):\n    def h(): a", "File: f=G", "Def:f<0: a=L g=L", "Def:g<1: a=C h=L", "Def:h<2: a=F")
	wantScopes(t, "def f(a): return [[a for i in 0] for a in 0]", "File: f=G", "Def:f<0: a=L", "ListComp<1: a=C", "ListComp<2: a=F i=L")
	wantScopes(t, "lambda a: [lambda: a for i in 0]", "File", "Lambda<0: a=C", "ListComp<1: a=F i=L", "Lambda<2: a=F")
	// Functions and comprehensions between have it too, in any number.
	wantScopes(t, "def f(a): return lambda: lambda: {0: (a for i in 0) for j in 0}", "File: f=G", "Def:f<0: a=C", "Lambda<1: a=F", "Lambda<2: a=F", "DictComp<3: a=F j=L", "GenExp<4 gen: a=F i=L")
	// A class between has it, but where it binds or declares it.
	wantScopes(t, "def f(a):\n  class K:\n    def g(): a", "File: f=G", "Def:f<0: K=L a=C", "Class:K<1: a=F g=K", "Def:g<2: a=F")
	wantScopes(t, "def f(a):\n  class K:\n    a = 1\n    def g(): a", "File: f=G", "Def:f<0: K=L a=C", "Class:K<1: a=K g=K", "Def:g<2: a=F")
	wantScopes(t, "def f(a):\n  class K:\n    global a\n    def g(): a", "File: f=G", "Def:f<0: K=L a=C", "Class:K<1: a=G g=K", "Def:g<2: a=F")
	wantScopes(t, "def f(a):\n  class K:\n    nonlocal a\n    def g(): a", "File: f=G", "Def:f<0: K=L a=C", "Class:K<1: a=F g=K", "Def:g<2: a=F")
	wantScopes(t, "def f(a):\n  class K:\n    class L:\n      a = 1\n      [a for i in 0]", "File: f=G", "Def:f<0: K=L a=C", "Class:K<1: L=K a=F", "Class:L<2: a=K", "ListComp<3: a=F i=L")
	wantScopes(t, "def f(a):\n  def g():\n    class K:\n      a = 1\n      lambda: a", "File: f=G", "Def:f<0: a=C g=L", "Def:g<1: K=L a=F", "Class:K<2: a=K", "Lambda<3: a=F")
	// The module and classes are passed by.
	wantScopes(t, "a = 1\ndef f(): a", "File: a=G f=G", "Def:f<0: a=G")
	wantScopes(t, "class K:\n  a = 1\n  class L:\n    def f(): a", "File: K=G", "Class:K<0: L=K a=K", "Class:L<1: f=K", "Def:f<2: a=G")
	// A global declaration on the way ends the search, be the name bound there or not.
	wantScopes(t, "def f():\n  global a\n  a = 1\n  def g(): a", "File: f=G", "Def:f<0: a=G g=L", "Def:g<1: a=G")
	wantScopes(t, "def f(a):\n  def g():\n    global a\n    a = 1\n    def h(): a", "File: f=G", "Def:f<0: a=L g=L", "Def:g<1: a=G h=L", "Def:h<2: a=G")
	wantScopes(t, "def f(a):\n  def g():\n    global a\n    lambda: [a for i in 0]", "File: f=G", "Def:f<0: a=L g=L", "Def:g<1: a=G", "Lambda<2", "ListComp<3: a=G i=L")
	// A nonlocal one does not.
	wantScopes(t, "def f(a):\n  def g():\n    nonlocal a\n    a = 1\n    def h(): a", "File: f=G", "Def:f<0: a=C g=L", "Def:g<1: a=F h=L", "Def:h<2: a=F")
	wantScopes(t, "def f(a):\n  def g():\n    nonlocal a\n    lambda: a", "File: f=G", "Def:f<0: a=C g=L", "Def:g<1: a=F", "Lambda<2: a=F")
	// A scope beside, or within, binds nothing for another.
	wantScopes(t, "def f():\n  def g(a): pass\n  a\n  lambda: a", "File: f=G", "Def:f<0: a=G g=L", "Def:g<1: a=L", "Lambda<1: a=G")
	// What is bound behind the use is bound.
	wantScopes(t, "def f():\n  def g(): a\n  a = 1", "File: f=G", "Def:f<0: a=C g=L", "Def:g<1: a=F")
	wantScopes(t, "[lambda: a for i in 0 for a in 0]", "File", "ListComp<0: a=C i=L", "Lambda<1: a=F")
}
