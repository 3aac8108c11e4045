package tests

import (
	"math/rand"
	"strings"
)

// scopeWriter writes programs with few names and many scopes, always the same
// for a seed.
type scopeWriter struct {
	r *rand.Rand
	// names are those that it takes; with more of them there are fewer faults.
	names []string
	// wild is how many of a hundred names are declared as they come.
	wild int
	// bound are the names that the functions around bind for certain.
	bound []string
}

func newScopeWriter(seed int64) *scopeWriter {
	r := rand.New(rand.NewSource(seed))
	all := []string{"a", "b", "c", "B", "_", "a1", "ab", "d", "e", "f"}
	return &scopeWriter{r: r, names: all[:2+r.Intn(9)], wild: r.Intn(20)}
}

func (w *scopeWriter) one(list ...string) string { return list[w.r.Intn(len(list))] }

func (w *scopeWriter) name() string { return w.one(w.names...) }

func (w *scopeWriter) program() string {
	return strings.Join(w.block(2+w.r.Intn(3), false), "\n")
}

// block writes the lines of some statements.
func (w *scopeWriter) block(depth int, function bool) []string {
	var out []string
	for range 1 + w.r.Intn(3) {
		out = append(out, w.stmt(depth, function)...)
	}
	return out
}

func indented(lines []string) []string {
	out := make([]string, len(lines))
	for i, line := range lines {
		out[i] = "  " + line
	}
	return out
}

func (w *scopeWriter) stmt(depth int, function bool) []string {
	if depth <= 0 || w.r.Intn(3) == 0 {
		return []string{w.simple(function)}
	}
	e := w.expr(depth-1, function)
	var head string
	switch w.r.Intn(9) {
	case 0, 1, 2:
		return w.def(depth, function)
	case 3, 4:
		return w.class(depth, function)
	case 5:
		head = "for " + w.targets(function) + " in " + e + ":"
	case 6:
		head = "with " + e + w.one("", " as "+w.lone(function), " as ("+w.targets(function)+")") + ":"
	case 7:
		return w.try(depth, function)
	case 8:
		return w.match(depth, function)
	}
	return append([]string{head}, indented(w.block(depth-1, function))...)
}

func (w *scopeWriter) try(depth int, function bool) []string {
	out := append([]string{"try:"}, indented(w.block(depth-1, function))...)
	out = append(out, w.one("except:", "except "+w.name()+":", "except "+w.expr(0, function)+" as "+w.name()+":"))
	return append(out, indented(w.block(depth-1, function))...)
}

func (w *scopeWriter) match(depth int, function bool) []string {
	out := []string{"match " + w.expr(0, function) + ":", "  case " + w.pattern() + w.one("", " if "+w.expr(1, function)) + ":"}
	return append(out, indented(indented(w.block(depth-1, function)))...)
}

func (w *scopeWriter) pattern() string {
	n := w.name()
	return w.one(n, "_", "["+n+", *_]", "[*"+n+"]", "{1: _, **"+n+"}", "{"+n+".x: 1}", n+"(1, x=_)", n+".x", "1 | 2 as "+n, n+"(x=(_ as "+n+"))")
}

func (w *scopeWriter) def(depth int, function bool) []string {
	out := w.decorators(depth, function)
	params := w.params(depth, function)
	out = append(out, "def "+w.name()+"("+params+"):")
	around := w.bound
	var body []string
	if w.r.Intn(2) == 0 {
		n := w.name()
		body = append(body, n+" = 1")
		w.bound = append(around[:len(around):len(around)], n)
	}
	out = append(out, indented(append(body, w.block(depth-1, true)...))...)
	w.bound = around
	return out
}

func (w *scopeWriter) class(depth int, function bool) []string {
	out := w.decorators(depth, function)
	e := w.expr(depth-1, function)
	out = append(out, "class "+w.name()+w.one("", "", "("+e+")", "(x="+e+")")+":")
	return append(out, indented(w.block(depth-1, false))...)
}

func (w *scopeWriter) decorators(depth int, function bool) []string {
	if w.r.Intn(4) > 0 {
		return nil
	}
	return []string{"@" + w.expr(depth-1, function)}
}

// params writes parameters of all kinds, with unlike names.
func (w *scopeWriter) params(depth int, function bool) string {
	names := append([]string{}, w.names...)
	w.r.Shuffle(len(names), func(i, j int) { names[i], names[j] = names[j], names[i] })
	names = append(names, "p", "q")
	e := w.expr(depth-1, function)
	return w.one("", "", "p", names[0], names[0]+"="+e, "*"+names[0], "**"+names[0], names[0]+", *, "+names[1]+"="+e, "*, "+names[0], "*"+names[0]+", **"+names[1])
}

func (w *scopeWriter) simple(function bool) string {
	if w.r.Intn(100) < w.wild {
		return w.one("global ", "nonlocal ") + w.name()
	}
	e, n := w.expr(1, function), w.name()
	switch w.r.Intn(12) {
	case 0, 1, 2:
		return w.targets(function) + " = " + e
	case 3:
		return w.lone(function) + " += " + e
	case 4:
		return "del " + w.one(n, "("+n+", "+w.name()+")", n+".x", n+"[0]", "["+n+"]")
	case 5:
		return w.one("import "+n, "import x as "+n, "from x import "+n, "from x import y as "+n, "from x import y as "+n+", "+w.name())
	case 6:
		return w.one("pass", "assert "+e, "raise "+e, "f'{"+n+"}{"+w.name()+"!r}'")
	case 7:
		if len(w.bound) > 0 {
			return "nonlocal " + w.one(w.bound...)
		}
	case 8:
		if w.r.Intn(3) == 0 {
			return "global " + n
		}
	}
	if function && w.r.Intn(4) == 0 {
		return w.one("yield "+e, "yield from "+e, "yield", "return "+e, n+" = yield")
	}
	return e
}

func (w *scopeWriter) lone(function bool) string {
	return w.one(w.name(), w.name(), w.name()+".x", w.name()+"["+w.expr(1, function)+"]")
}

// targets writes a list of targets, some in brackets.
func (w *scopeWriter) targets(function bool) string {
	a, b := w.lone(function), w.lone(function)
	return w.one(a, a, a, a+", "+b, "*"+a+", "+b, "("+a+", "+b+")", "["+a+", *"+b+"]", "["+a+"]", "("+a+", ("+b+",))")
}

func (w *scopeWriter) expr(depth int, function bool) string {
	if depth <= 0 || w.r.Intn(4) == 0 {
		return w.name()
	}
	e := w.expr(depth-1, function)
	switch w.r.Intn(10) {
	case 0:
		return "(" + w.name() + " := " + e + ")"
	case 1:
		return "(lambda " + w.params(depth-1, function) + ": " + w.expr(depth-1, true) + ")"
	case 2, 3, 4, 5:
		return w.comp(depth, function)
	case 6:
		return w.name() + "(" + e + ", x=" + w.name() + ")"
	case 7:
		if function && w.r.Intn(3) == 0 {
			return w.one("(yield)", "(yield "+e+")", "(yield from "+e+")")
		}
		return e + "." + w.name()
	case 8:
		return "(" + e + " if " + w.name() + " else " + w.expr(depth-1, function) + ")"
	}
	return w.name() + "[" + e + "]"
}

func (w *scopeWriter) comp(depth int, function bool) string {
	e := w.expr(depth-1, function)
	clauses := " for " + w.clauseTarget(function) + " in " + w.expr(depth-1, function)
	if w.r.Intn(3) == 0 {
		clauses += " if " + w.expr(depth-1, function)
	}
	if w.r.Intn(3) == 0 {
		clauses += " for " + w.clauseTarget(function) + " in " + w.expr(depth-1, function)
	}
	return w.one("["+e+clauses+"]", "{"+e+clauses+"}", "("+e+clauses+")", "{"+e+": "+w.name()+clauses+"}")
}

// clauseTarget takes mostly names that nothing else has, for a := to be allowed.
func (w *scopeWriter) clauseTarget(function bool) string {
	return w.one("i", "j", "i, j", "(i, *j)", w.name(), w.targets(function))
}
