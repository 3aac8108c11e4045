package tests

import (
	"fmt"
	"strings"
	"testing"

	"loop.example/g00009/impl"
)

// codeRows are the rows of chapter 11's tables for nodes with so many Kids: e, s
// and b stand for a Kid as an expression, a target that is stored in and a block,
// TEXT and OP for what the node has.
const codeRows = `
Absent/0 = Const=None
Name/0 = Load=TEXT
Attr/1 = e0 Attr=TEXT
Index/2 = e0 e1 Item
Slice/3 = e0 e1 e2 Slice
Binary/2 = e0 e1 Binary=OP
Unary/1 = e0 Unary=OP
Not/1 = e0 Not
Walrus/1 = e0 Dup Store=TEXT
Cond/3 = e0 False>x e1 Jump>y x: e2 y:
Yield/0 = Const=None Yield
Yield/1 = e0 Yield
YieldFrom/1 = e0 Iter Const=None YieldFrom
Expr/1 = e0 Pop
Pass/0 =
Break/0 = Break
Continue/0 = Continue
Return/0 = Const=None Return
Return/1 = e0 Return
Raise/0 = Raise=0
Raise/1 = e0 Raise=1
Raise/2 = e0 e1 Raise=2
Assert/1 = e0 False>x Jump>y x: Assert=0 y:
Assert/2 = e0 False>x Jump>y x: e1 Assert=1 y:
Import/1 = Import=TEXT s0
If/2 = e0 False>x b1 x:
If/3 = e0 False>x b1 Jump>y x: b2 y:
While/2 = Loop>z t: Turn e0 False>x b1 Jump>t x: BlockEnd z:
While/3 = Loop>z t: Turn e0 False>x b1 Jump>t x: BlockEnd b2 z:
Loop/3 = e1 Iter Loop>z t: For>x s0 b2 Jump>t x: BlockEnd Pop Jump>y z: Pop y:
Loop/4 = e1 Iter Loop>z t: For>x s0 b2 Jump>t x: BlockEnd Pop b3 Jump>y z: Pop y:
`

// ruleCompiler makes code by the rows, as steps whose labels have numbers behind
// them so that no two are alike.
type ruleCompiler struct {
	nodes  []impl.Node
	parts  map[int64]int64
	rows   map[string]string
	labels int
	pats   []impl.Tree
}

func compileRule(tree impl.Tree) (impl.Code, impl.Fault) {
	scopes, fault := impl.Scopes(tree)
	if fault.Code != 0 {
		return impl.Code{}, fault
	}
	r := &ruleCompiler{nodes: tree.Nodes, parts: map[int64]int64{}, rows: map[string]string{}}
	for _, row := range strings.Split(strings.Trim(codeRows, "\n"), "\n") {
		name, text, _ := strings.Cut(row, " =")
		r.rows[name] = text
	}
	for i, s := range scopes {
		r.parts[s.Node] = int64(i)
	}
	c := impl.Code{}
	for _, s := range scopes {
		r.pats = nil
		n := tree.Nodes[s.Node]
		p := assembled(r.part(n))
		p.Name, p.Line, p.Pats = n.Text, n.Line, r.pats
		switch nodeWord(n.Kind) {
		case "File":
			p.Name = "<module>"
		case "Lambda":
			p.Name = "<lambda>"
		case "ListComp", "SetComp", "DictComp":
			p.Name, p.Form = "<comp>", n.Kind-impl.NListComp+impl.FormList
		case "GenExp":
			p.Name, p.Form = "<gen>", impl.FormGen
		}
		p.Kind, p.Gen, p.Names = s.Kind, s.Gen, s.Names
		if n.Kind == impl.NDef || n.Kind == impl.NLambda {
			for _, kid := range tree.Nodes[n.Kids[0]].Kids {
				p.Params = append(p.Params, impl.Param{Name: tree.Nodes[kid].Text, Op: tree.Nodes[kid].Op})
			}
		}
		c.Parts = append(c.Parts, p)
	}
	return c, impl.Fault{}
}

func (r *ruleCompiler) part(n impl.Node) []step {
	switch nodeWord(n.Kind) {
	case "File":
		return r.put(n, "stmts Const=None Return")
	case "Def", "Class":
		return r.put(n, "b1 Const=None Return")
	case "Lambda":
		return r.put(n, "e1 Return")
	}
	return r.comp(n)
}

// put fills a row in for a node.
func (r *ruleCompiler) put(n impl.Node, row string) []step {
	r.labels++
	mark := fmt.Sprint("#", r.labels)
	out := []step{}
	for _, word := range strings.Fields(row) {
		kid := word[len(word)-1] - '0'
		switch {
		case word == "stmts":
			for _, at := range n.Kids {
				out = append(out, r.stmt(at)...)
			}
		case len(word) == 2 && word[0] == 'e':
			out = append(out, r.expr(n.Kids[kid])...)
		case len(word) == 2 && word[0] == 's':
			out = append(out, r.store(n.Kids[kid])...)
		case len(word) == 2 && word[0] == 'b':
			out = append(out, r.put(r.nodes[n.Kids[kid]], "stmts")...)
		case strings.HasSuffix(word, "=TEXT"):
			out = append(out, stepOf(strings.TrimSuffix(word, "=TEXT"), n.Text))
		case strings.HasSuffix(word, "=OP"):
			out = append(out, step{op: strings.TrimSuffix(word, "=OP"), num: n.Op})
		default:
			for _, s := range stepsOf(word) {
				if s.needs == needsLabel || s.needs == isLabel {
					s.text += mark
				}
				out = append(out, s)
			}
		}
	}
	return out
}

// each fills rows in for some Kids, by their kinds; other is for all that have none.
func (r *ruleCompiler) each(kids []int64, rows map[int64]string, other string) []step {
	out := []step{}
	for _, at := range kids {
		row, ok := rows[r.nodes[at].Kind]
		if !ok {
			out = append(out, r.expr(at)...)
			row = other
		}
		out = append(out, r.put(r.nodes[at], row)...)
	}
	return out
}

func (r *ruleCompiler) args(kids []int64) []step {
	return r.each(kids, map[int64]string{impl.NStar: "e0 AddAll", impl.NKey: "e0 Key=TEXT", impl.NKStar: "e0 Keys"}, "Add")
}

func joinSteps(lists ...[]step) []step {
	out := []step{}
	for _, list := range lists {
		out = append(out, list...)
	}
	return out
}

func (r *ruleCompiler) function(at int64) []step {
	out := stepsOf("Args")
	for _, kid := range r.nodes[r.nodes[at].Kids[0]].Kids {
		if p := r.nodes[kid]; len(p.Kids) == 1 {
			out = append(out, r.put(p, "e0 Key=TEXT")...)
		}
	}
	return append(out, step{op: "Func", num: r.parts[at]})
}

func (r *ruleCompiler) expr(at int64) []step {
	n := r.nodes[at]
	if row, ok := r.rows[fmt.Sprintf("%s/%d", nodeWord(n.Kind), len(n.Kids))]; ok {
		return r.put(n, row)
	}
	switch word := nodeWord(n.Kind); word {
	case "Int", "Float", "Str":
		return []step{{op: "Const", needs: needsConst, num: n.Kind - impl.NInt + impl.ConstInt, text: n.Text}}
	case "Const":
		return []step{{op: "Const", needs: needsConst, num: n.Op}}
	case "Tuple", "List", "Set":
		return joinSteps(stepsOf("Args"), r.args(n.Kids), []step{{op: "Finish", num: n.Kind - impl.NTuple}})
	case "Dict":
		return joinSteps(stepsOf("Dict"), r.each(n.Kids, map[int64]string{impl.NPair: "e0 e1 Put", impl.NKStar: "e0 Merge"}, ""), stepsOf("Finish=3"))
	case "Call":
		return joinSteps(r.expr(n.Kids[0]), stepsOf("Args"), r.args(n.Kids[1:]), stepsOf("Call"))
	case "Bool":
		return r.put(n, map[int64]string{1: "e0 FalseKeep>x e1 x:", 2: "e0 TrueKeep>x e1 x:"}[n.Op])
	case "Compare":
		return r.compare(n)
	case "Lambda":
		return r.function(at)
	case "FStr":
		out := []step{}
		for _, kid := range n.Kids {
			if field := r.nodes[kid]; field.Kind == impl.NField {
				out = append(out, r.expr(field.Kids[0])...)
				out = append(out, step{op: "Format", needs: needsWord, num: field.Op, text: field.Text})
			} else {
				out = append(out, r.expr(kid)...)
			}
		}
		return append(out, step{op: "Join", num: int64(len(n.Kids))})
	case "ListComp", "SetComp", "DictComp", "GenExp":
		first := 1
		if word == "DictComp" {
			first = 2
		}
		op := "Comp"
		if word == "GenExp" {
			op = "Gen"
		}
		return joinSteps(r.expr(r.nodes[n.Kids[first]].Kids[1]), stepsOf("Iter"), []step{{op: op, num: r.parts[at]}})
	}
	panic("no rule for " + nodeWord(n.Kind))
}

func (r *ruleCompiler) compare(n impl.Node) []step {
	r.labels++
	x, y := fmt.Sprint("x#", r.labels), fmt.Sprint("y#", r.labels)
	out := r.expr(n.Kids[0])
	for i, kid := range n.Kids[1:] {
		if i < len(n.Kids)-2 {
			out = append(out, r.put(r.nodes[kid], "e0 Dup Rot Compare=OP")...)
			out = append(out, step{op: "FalseKeep", needs: needsLabel, text: x})
		} else {
			out = append(out, r.put(r.nodes[kid], "e0 Compare=OP")...)
		}
	}
	if len(n.Kids) == 2 {
		return out
	}
	return joinSteps(out, []step{{op: "Jump", needs: needsLabel, text: y}, {needs: isLabel, text: x}}, stepsOf("Swap Pop"), []step{{needs: isLabel, text: y}})
}

func (r *ruleCompiler) store(at int64) []step {
	n := r.nodes[at]
	switch nodeWord(n.Kind) {
	case "Name":
		return r.put(n, "Store=TEXT")
	case "Attr":
		return r.put(n, "e0 SetAttr=TEXT")
	case "Index":
		return r.put(n, "e0 e1 SetItem")
	case "Star":
		return r.put(n, "s0")
	}
	out := []step{}
	arg := int64(len(n.Kids))
	for i, kid := range n.Kids {
		if r.nodes[kid].Kind == impl.NStar {
			arg += 10000 * int64(i+1)
		}
		out = append(out, r.store(kid)...)
	}
	return append([]step{{op: "Unpack", num: arg}}, out...)
}

func (r *ruleCompiler) remove(at int64) []step {
	n := r.nodes[at]
	switch nodeWord(n.Kind) {
	case "Name":
		return r.put(n, "Unbind=TEXT")
	case "Attr":
		return r.put(n, "e0 DelAttr=TEXT")
	case "Index":
		return r.put(n, "e0 e1 DelItem")
	}
	out := []step{}
	for _, kid := range n.Kids {
		out = append(out, r.remove(kid)...)
	}
	return out
}

func (r *ruleCompiler) stmt(at int64) []step {
	n := r.nodes[at]
	begin := []step{{op: "Stmt", num: n.Line}}
	row, ok := r.rows[fmt.Sprintf("%s/%d", nodeWord(n.Kind), len(n.Kids))]
	if ok {
		return append(begin, r.put(n, row)...)
	}
	last := len(n.Kids) - 1
	switch nodeWord(n.Kind) {
	case "Global", "Nonlocal":
		return begin
	case "Assign":
		out := append(begin, r.expr(n.Kids[last])...)
		for _, kid := range n.Kids[:last] {
			out = joinSteps(out, stepsOf("Dup"), r.store(kid))
		}
		return append(out, stepsOf("Pop")...)
	case "Aug":
		return append(begin, r.augment(n)...)
	case "Del":
		return append(begin, r.remove(n.Kids[0])...)
	case "From":
		out := append(begin, r.put(n, "Import=TEXT")...)
		for _, kid := range n.Kids {
			out = append(out, r.put(r.nodes[kid], "From=TEXT s0")...)
		}
		return append(out, stepsOf("Pop")...)
	case "With":
		if r.nodes[n.Kids[1]].Kind == impl.NAbsent {
			return append(begin, r.put(n, "e0 With>z Pop b2 BlockEnd z:")...)
		}
		return append(begin, r.put(n, "e0 With>z s1 b2 BlockEnd z:")...)
	case "Def", "Class":
		return append(begin, r.define(at)...)
	case "Try":
		return append(begin, r.try(n)...)
	case "Match":
		return append(begin, r.match(n)...)
	}
	panic("no rule for " + nodeWord(n.Kind))
}

func (r *ruleCompiler) augment(n impl.Node) []step {
	target := r.nodes[n.Kids[0]]
	val := append(r.expr(n.Kids[1]), step{op: "Aug", num: n.Op})
	switch nodeWord(target.Kind) {
	case "Name":
		return joinSteps(r.put(target, "Load=TEXT"), val, r.put(target, "Store=TEXT"))
	case "Attr":
		return joinSteps(r.put(target, "e0 Dup Attr=TEXT"), val, r.put(target, "Swap SetAttr=TEXT"))
	}
	return joinSteps(r.put(target, "e0 e1 Dup2 Item"), val, stepsOf("Rot SetItem"))
}

func (r *ruleCompiler) define(at int64) []step {
	n := r.nodes[at]
	out, ends := []step{}, []step{}
	for _, kid := range n.Kids[2:] {
		out = append(out, r.expr(kid)...)
		ends = append(ends, stepsOf("Deco")...)
	}
	if n.Kind == impl.NDef {
		out = append(out, r.function(at)...)
	} else {
		out = joinSteps(out, stepsOf("Args"), r.args(r.nodes[n.Kids[0]].Kids), []step{{op: "Class", num: r.parts[at]}})
	}
	return joinSteps(out, ends, r.put(n, "Store=TEXT"))
}

func (r *ruleCompiler) try(n impl.Node) []step {
	last := len(n.Kids) - 1
	inner := r.put(n, "b0")
	if last > 2 {
		r.labels++
		y := fmt.Sprint("y#", r.labels)
		jump := []step{{op: "Jump", needs: needsLabel, text: y}}
		inner = joinSteps([]step{{op: "Try", needs: needsLabel, text: "h" + y}}, inner, stepsOf("BlockEnd"), r.put(r.nodes[n.Kids[last-1]], "stmts"), jump, []step{{needs: isLabel, text: "h" + y}})
		for _, kid := range n.Kids[1 : last-1] {
			h := r.nodes[kid]
			name := stepsOf("Handle=0 HandleEnd=0")
			if h.Text != "" {
				name = []step{stepOf("Handle", h.Text), stepOf("HandleEnd", h.Text)}
			}
			body := joinSteps(name[:1], r.put(h, "b1"), name[1:], jump)
			if r.nodes[h.Kids[0]].Kind != impl.NAbsent {
				r.labels++
				next := fmt.Sprint("n#", r.labels)
				body = joinSteps(r.expr(h.Kids[0]), []step{{op: "Match", needs: needsLabel, text: next}}, body, []step{{needs: isLabel, text: next}})
			}
			inner = append(inner, body...)
		}
		inner = joinSteps(inner, stepsOf("Reraise"), []step{{needs: isLabel, text: y}})
	}
	if r.nodes[n.Kids[last]].Kind == impl.NAbsent {
		return inner
	}
	r.labels++
	f := fmt.Sprint("f#", r.labels)
	return joinSteps([]step{{op: "Fin", needs: needsLabel, text: f}}, inner, stepsOf("BlockEnd"), []step{{needs: isLabel, text: f}}, r.put(r.nodes[n.Kids[last]], "stmts"), stepsOf("Again"))
}

func (r *ruleCompiler) match(n impl.Node) []step {
	r.labels++
	y := fmt.Sprint("y#", r.labels)
	out := r.expr(n.Kids[0])
	for _, kid := range n.Kids[1:] {
		c := r.nodes[kid]
		r.labels++
		next := fmt.Sprint("n#", r.labels)
		out = append(out, step{op: "Case", num: int64(len(r.pats))}, step{op: "False", needs: needsLabel, text: next})
		r.pats = append(r.pats, r.pattern(c.Kids[0]))
		if r.nodes[c.Kids[1]].Kind != impl.NAbsent {
			out = append(append(out, r.expr(c.Kids[1])...), step{op: "False", needs: needsLabel, text: next})
		}
		out = joinSteps(out, r.put(c, "b2"), []step{{op: "Jump", needs: needsLabel, text: y}, {needs: isLabel, text: next}})
	}
	return joinSteps(out, []step{{needs: isLabel, text: y}}, stepsOf("Pop"))
}

// pattern is the tree of a pattern, node by node.
func (r *ruleCompiler) pattern(at int64) impl.Tree {
	var grow func(at int64) *branch
	grow = func(at int64) *branch {
		n := r.nodes[at]
		b := &branch{kind: n.Kind, op: n.Op, text: n.Text, line: 1}
		for _, kid := range n.Kids {
			b.kids = append(b.kids, grow(kid))
		}
		return b
	}
	return treeOf(grow(at))
}

func (r *ruleCompiler) comp(n impl.Node) []step {
	gives := 1
	if n.Kind == impl.NDictComp {
		gives = 2
	}
	out, ends := []step{}, []step{}
	clauses := n.Kids[gives:]
	label := func(name string, i int) string { return fmt.Sprint(name, i) }
	for i, kid := range clauses {
		c := r.nodes[kid]
		if i > 0 {
			out = append(out, r.put(c, "e1 Iter")...)
		}
		out = append(out, step{needs: isLabel, text: label("turn", i)}, step{op: "For", needs: needsLabel, text: label("end", i)})
		out = append(out, r.store(c.Kids[0])...)
		for _, cond := range c.Kids[2:] {
			out = append(append(out, r.expr(cond)...), step{op: "False", needs: needsLabel, text: label("turn", i)})
		}
		end := append([]step{{needs: isLabel, text: label("end", i)}}, stepsOf("Pop")...)
		if i > 0 {
			end = append(end, step{op: "Jump", needs: needsLabel, text: label("turn", i-1)})
		}
		ends = append(end, ends...)
	}
	for _, kid := range n.Kids[:gives] {
		out = append(out, r.expr(kid)...)
	}
	if n.Kind == impl.NGenExp {
		out, ends = append(out, stepsOf("Yield Pop")...), append(ends, stepsOf("Const=None")...)
	} else {
		out = append(out, stepsOf("Collect")...)
	}
	out = append(out, step{op: "Jump", needs: needsLabel, text: label("turn", len(clauses)-1)})
	return joinSteps(out, ends, stepsOf("Return"))
}

// wantByRule compiles a text both ways.
func wantByRule(t *testing.T, src string) bool {
	t.Helper()
	tree, fault := impl.Parse(src)
	if fault.Code != 0 {
		return false
	}
	c, fault := impl.Compile(tree)
	want, other := compileRule(tree)
	if fault != other || !sameCode(c, want) {
		t.Fatalf("%s\n is %v %s\n\n by the rules %v %s", src, fault, codeTold(c), other, codeTold(want))
	}
	return fault.Code == 0
}

func TestP11ByTheRules(t *testing.T) {
	t.Parallel()
	seen := 0
	for i := range int64(700) {
		w := newRowWriter(i + 90000)
		if wantByRule(t, laid(w.r, w.write("file", 3+int(i%6)))) {
			seen++
		}
	}
	if seen < 350 {
		t.Error("too few texts without a fault:", seen)
	}
	for i := range int64(250) {
		wantByRule(t, newScopeWriter(i+90000).program())
		wantByRule(t, drawnProgram(i))
		wantByRule(t, flowProgram(i))
	}
}

func TestP11ProgramsByTheRules(t *testing.T) {
	for _, p := range allProgs() {
		for _, m := range modsOf(p.src) {
			wantByRule(t, m.Src)
		}
	}
	for _, src := range programs() {
		wantByRule(t, src)
	}
}
