package tests

import (
	"fmt"
	"math/rand"
	"strings"
	"testing"

	"loop.example/g00009/impl"
)

// pastClassProgs have a class that keeps a name to itself which the scopes in it
// take from a function around.
func pastClassProgs() []prog {
	return []prog{
		{"def h():\n  x = 5\n  class A:\n    x = 6\n    def m(self): return x\n  return A().m(), A.x\nprint(h())\n", "(5, 6)\n", ""},
		{"def h():\n  x = 5\n  class A:\n    x = 6\n    m = lambda self: x\n  return A().m(), A.x\nprint(h())\n", "(5, 6)\n", ""},
		{"def h():\n  x = 5\n  class A:\n    x = 6\n    class B:\n      y = x\n      x = 7\n      class C:\n        z = x\n        def m(self): return x\n  return A.B.y, A.B.C.z, A.B.C().m(), A.B.x\nprint(h())\n", "", "NameError"},
		{"def h():\n  x = 5\n  class A:\n    x = 6\n    class B:\n      x = 7\n      class C:\n        z = x\n        def m(self): return x\n  return A.x, A.B.x, A.B.C.z, A.B.C().m()\nprint(h())\n", "(6, 7, 5, 5)\n", ""},
		{"def h(x):\n  class A:\n    x = 6\n    y = [x for i in [1]], {x for i in [1]}, {x: i for i in [1]}, list(x for i in [1])\n  return A.y\nprint(h(5))\n", "([5], {5}, {5: 1}, [5])\n", ""},
		{"def h(x):\n  class A:\n    x = [6, 7]\n    y = [x for i in x]\n  return A.y\nprint(h(5))\n", "[5, 5]\n", ""},
		{"def h(x):\n  class A:\n    x = 6\n    def m(self):\n      nonlocal x\n      x += 1\n      return x\n  return A().m(), A.x, x\nprint(h(5))\n", "(6, 6, 6)\n", ""},
		{"def h(x):\n  class A:\n    x = 6\n    class B:\n      nonlocal x\n      x += 1\n  return A.x, x, hasattr(A.B, 'x')\nprint(h(5))\n", "(6, 6, False)\n", ""},
		{"def h(x):\n  class A:\n    x = 6\n    def m(self):\n      nonlocal x\n      del x\n  a = A()\n  a.m()\n  print(a.x)\n  print(x)\nh(5)\n", "6\n", "NameError"},
		{"x = 1\ndef h(x):\n  class A:\n    global x\n    x = 6\n    def m(self): return x\n  return A().m(), x\nprint(h(5), x)\n", "(5, 5) 6\n", ""},
		{"def h(x):\n  class A:\n    x = 6\n    def m(self):\n      class B:\n        x = 7\n        def n(self): return x\n      return B().n()\n  return A().m()\nprint(h(5))\n", "5\n", ""},
		{"def h():\n  class A:\n    x = 6\n    def m(self): return x\n  yield A().m\n  x = 5\n  yield A().m\ng = h()\na = next(g)\nb = next(g)\nprint(a(), b())\n", "5 5\n", ""},
		{"x = 1\ndef h():\n  class A:\n    x = 6\n    def m(self): return x\n  return A().m()\nprint(h())\n", "1\n", ""},
		{"def h(x):\n  def k():\n    class A:\n      x = 6\n      def m(self): return x\n    return A\n  return k\na = h(1)()\nb = h(2)()\nprint(a().m(), b().m(), a.x)\n", "1 2 6\n", ""},
		{"def h(x):\n  class A:\n    for x in [6, 7]: pass\n    def __init__(self, y=x): self.y = y, x\n  return A().y\nprint(h(5))\n", "(7, 5)\n", ""},
	}
}

func TestP10NamesPastClasses(t *testing.T) { wantProgs(t, pastClassProgs()) }

// mostNests keeps a program's text well below MaxText.
const mostNests = 30

// nest is a scope that does something with the name x, and those in it.
type nest struct {
	kind string
	mark int
	decl string
	// first and last are what is done with x at its beginning and at its end.
	first string
	last  string
	again bool
	kids  []*nest
	up    *nest
}

func (n *nest) binds() bool { return n.first != "" || n.last != "" }

// lender is the nest around of which x is meant; ok is false when it is a global.
func (n *nest) lender() (*nest, bool) {
	for up := n.up; up != nil; up = up.up {
		switch {
		case up.kind == "class" || up.kind == "module" || !up.binds() && up.decl != "global":
		case up.decl == "global":
			return nil, false
		case up.decl == "":
			return up, true
		}
	}
	return nil, false
}

func drawNest(r *rand.Rand, up *nest, kind string, depth int, marks *int) *nest {
	*marks++
	n := &nest{kind: kind, mark: *marks, up: up}
	any := func(list ...string) string { return list[r.Intn(len(list))] }
	if kind == "comp" {
		n.first = any("", "for")
		return n
	}
	if kind != "module" {
		n.decl = any("", "", "", "global", "nonlocal")
	}
	if _, ok := n.lender(); n.decl == "nonlocal" && !ok {
		n.decl = ""
	}
	n.first = any("", "", "bind")
	n.last = any("", "", "bind", "del", "walrus")
	if kind == "class" && n.last == "walrus" {
		n.last = "bind"
	}
	n.again = r.Intn(3) == 0
	for depth > 0 && r.Intn(4) > 0 && len(n.kids) < 3 && *marks < mostNests {
		n.kids = append(n.kids, drawNest(r, n, any("function", "function", "class", "class", "comp"), depth-1, marks))
	}
	return n
}

func (n *nest) write(out *strings.Builder, in string) {
	line := func(format string, a ...any) { out.WriteString(in + fmt.Sprintf(format, a...) + "\n") }
	guarded := func(what string) {
		line("try: %s", what)
		line("except NameError: print(%d, None)", n.mark)
	}
	if n.kind == "comp" {
		target := "i"
		if n.first == "for" {
			target = "x"
		}
		guarded(fmt.Sprintf("[(lambda: print(%d, x))() for %s in [%d]]", n.mark, target, n.mark))
		return
	}
	head := in
	switch n.kind {
	case "function":
		line("def f%d():", n.mark)
		in += " "
	case "class":
		line("class c%d:", n.mark)
		in += " "
	}
	if n.decl != "" {
		line("%s x", n.decl)
	}
	if n.first == "bind" {
		line("x = %d", n.mark)
	}
	guarded(fmt.Sprintf("print(%d, x)", n.mark))
	for _, kid := range n.kids {
		kid.write(out, in)
	}
	switch n.last {
	case "bind":
		line("x = %d", n.mark+1000)
	case "del":
		guarded("del x")
	case "walrus":
		line("[(x := %d) for i in [1]]", n.mark+2000)
	}
	guarded(fmt.Sprintf("print(%d, x)", n.mark))
	in = head
	switch n.kind {
	case "function":
		line("f%d()", n.mark)
		if n.again {
			line("later.append(f%d)", n.mark)
		}
	case "class":
		line("print(%d, getattr(c%d, 'x', None))", n.mark, n.mark)
	}
}

// spot is a nest that is being done; x is 0 as long as it is not bound.
type spot struct {
	of *nest
	up *spot
	x  int
}

type nestRun struct {
	global int
	later  []func()
	out    strings.Builder
}

func (w *nestRun) place(s *spot) *int {
	n := s.of
	if n.kind == "module" || n.decl == "global" {
		return &w.global
	}
	if n.binds() && n.decl == "" {
		return &s.x
	}
	lender, ok := n.lender()
	if !ok {
		return &w.global
	}
	for s.of != lender {
		s = s.up
	}
	return &s.x
}

func (w *nestRun) show(s *spot) {
	x := *w.place(s)
	if x == 0 && s.of.kind == "class" && s.of.binds() && s.of.decl == "" {
		x = w.global
	}
	w.tell(s.of.mark, x)
}

func (w *nestRun) tell(mark int, x int) {
	if x == 0 {
		fmt.Fprintf(&w.out, "%d None\n", mark)
		return
	}
	fmt.Fprintf(&w.out, "%d %d\n", mark, x)
}

func (w *nestRun) do(s *spot) {
	n := s.of
	if n.first != "" {
		*w.place(s) = n.mark
	}
	w.show(s)
	for _, kid := range n.kids {
		w.begin(kid, s)
	}
	switch n.last {
	case "bind":
		*w.place(s) = n.mark + 1000
	case "walrus":
		*w.place(s) = n.mark + 2000
	case "del":
		if *w.place(s) == 0 {
			w.tell(n.mark, 0)
		}
		*w.place(s) = 0
	}
	if n.kind != "comp" {
		w.show(s)
	}
}

func (w *nestRun) begin(n *nest, up *spot) {
	s := &spot{of: n, up: up}
	w.do(s)
	if n.kind == "class" {
		w.tell(n.mark, s.x)
	}
	if n.kind == "function" && n.again {
		w.later = append(w.later, func() { w.do(&spot{of: n, up: up}) })
	}
}

// nestProgram is a drawn program of nests, and what it prints.
func nestProgram(seed int64) (string, string) {
	marks := 0
	top := drawNest(rand.New(rand.NewSource(seed)), nil, "module", 5, &marks)
	var src strings.Builder
	src.WriteString("later = []\n")
	top.write(&src, "")
	src.WriteString("for f in later: f()\n")
	w := &nestRun{}
	w.do(&spot{of: top})
	for i := 0; i < len(w.later); i++ {
		w.later[i]()
	}
	return src.String(), w.out.String()
}

func TestP10NamesOfDrawnNests(t *testing.T) {
	t.Parallel()
	for seed := range int64(1500) {
		src, text := nestProgram(seed)
		if o := meant(src); o.Code != impl.OutEnd || o.Text != text {
			t.Fatalf("%d: %s\n is %s\n not %s", seed, src, outTold(o), text)
		}
	}
}
