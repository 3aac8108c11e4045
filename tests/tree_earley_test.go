package tests

import (
	"slices"
	"strconv"
	"strings"
	"sync"

	"loop.example/g00009/impl"
)

// A second parser, by the rows of treeRows: it keeps all ways in which a text
// could be read at the same time, so that the first token with which it can't
// go on is that at which no way is left.

// nodePart is a part of what a row gives: what one of its symbols gives, an
// NAbsent, or a node.
type nodePart struct {
	symbol int
	absent bool
	node   *nodeForm
}

type nodeForm struct {
	kind  int64
	op    int64
	text  int
	line  int
	parts []nodePart
}

// treeRow is a row with its symbols by number: tokens below 0.
type treeRow struct {
	left  int
	right []int
	parts []nodePart
	fresh int
}

// treeGrammar has for each symbol that is no token its rows.
type treeGrammar struct {
	rows    []treeRow
	rowsOf  [][]int
	numbers map[string]int
	names   []string
	// Those of tokens, apart.
	tokens     map[string]int
	tokenNames []string
}

var theGrammar = sync.OnceValue(func() *treeGrammar { return newTreeGrammar(treeRows) })

func newTreeGrammar(rows string) *treeGrammar {
	g := &treeGrammar{numbers: map[string]int{}, tokens: map[string]int{}}
	for row := range strings.Lines(rows) {
		if row == "\n" {
			continue
		}
		for _, in := range placesOf(row) {
			g.addRow(row, in)
		}
	}
	return g
}

// placesOf are those in which a row is there: of f, in a function, l, in a loop.
func placesOf(row string) []string {
	left := strings.Fields(strings.TrimPrefix(strings.TrimPrefix(row, "?f "), "?l "))[0]
	places := []string{""}
	switch left[len(left)-1] {
	case '^':
		places = []string{"", "f"}
	case '~':
		places = []string{"", "f", "l", "fl"}
	}
	if row[0] == '?' {
		places = slices.DeleteFunc(places, func(in string) bool { return !strings.Contains(in, row[1:2]) })
	}
	return places
}

func (g *treeGrammar) addRow(text string, in string) {
	if text[0] == '?' {
		text = text[3:]
	}
	form, action, has := strings.Cut(text, "=>")
	words := strings.Fields(form)
	row := treeRow{left: g.number(placed(words[0], in))}
	for _, word := range words[2:] {
		row.right = append(row.right, g.number(placed(word, in)))
	}
	if !has {
		action = "$1"
	}
	action, fresh, _ := strings.Cut(action, "!")
	row.fresh, _ = strconv.Atoi(strings.TrimSpace(fresh))
	row.parts, _ = partsOf(strings.Fields(strings.NewReplacer("(", " ( ", ")", " ) ").Replace(action)))
	g.rows = append(g.rows, row)
	g.rowsOf[row.left] = append(g.rowsOf[row.left], len(g.rows)-1)
}

// placed is a symbol's name in a place.
func placed(word string, in string) string {
	name, behind, ok := strings.Cut(word, "^")
	if strings.HasPrefix(word, "'") {
		return word
	}
	if ok {
		if behind == "F" || strings.Contains(in, "f") {
			return name + "^f"
		}
		return name + "^"
	}
	name, behind, ok = strings.Cut(word, "~")
	switch {
	case !ok:
		return word
	case behind == "F":
		in = "f"
	case behind == "C":
		in = ""
	case behind == "L":
		in = strings.TrimSuffix(in, "l") + "l"
	}
	return name + "~" + in
}

func (g *treeGrammar) number(name string) int {
	if name[0] == '\'' || strings.ToUpper(name[:1]) == name[:1] {
		if g.tokens[name] == 0 {
			g.tokens[name] = -1 - len(g.tokens)
			g.tokenNames = append(g.tokenNames, name)
		}
		return g.tokens[name]
	}
	n, ok := g.numbers[name]
	if !ok {
		n = len(g.names)
		g.numbers[name] = n
		g.names = append(g.names, name)
		g.rowsOf = append(g.rowsOf, nil)
	}
	return n
}

// partsOf reads what a row gives, up to a closing bracket.
func partsOf(words []string) ([]nodePart, []string) {
	var parts []nodePart
	for len(words) > 0 && words[0] != ")" {
		word := words[0]
		words = words[1:]
		switch {
		case word == "-":
			parts = append(parts, nodePart{absent: true})
		case word == "(":
			var inner []nodePart
			inner, words = partsOf(words)
			parts = append(parts, inner...)
			words = words[1:]
		case word[0] == '$':
			n, _ := strconv.Atoi(word[1:])
			parts = append(parts, nodePart{symbol: n})
		default:
			form := &nodeForm{kind: int64(slices.Index(nodeWords(), word) + 1)}
			words = form.read(words)
			parts = append(parts, nodePart{node: form})
		}
	}
	return parts, words
}

// read reads a node from behind its kind.
func (f *nodeForm) read(words []string) []string {
	for len(words) > 0 {
		n, err := strconv.Atoi(strings.TrimLeft(words[0], "@:"))
		switch {
		case err != nil:
			f.parts, words = partsOf(words)
			return words
		case words[0][0] == '@':
			f.text = n
		case words[0][0] == ':':
			f.line = n
		default:
			f.op = int64(n)
		}
		words = words[1:]
	}
	return words
}

// way is a row that was read up to a symbol: where it began, and what the
// symbol ahead of it gave.
type way struct {
	row   int
	dot   int
	from  int
	ahead *way
	got   []*branch
	text  string
	start int
}

type wayKey struct{ row, dot, from int }

// waySet are the ways up to one token.
type waySet struct {
	list    []*way
	seen    map[wayKey]bool
	waiting map[int][]*way
	ends    map[[2]int][]*branch
}

// rowReader reads tokens by the rows.
type rowReader struct {
	g    *treeGrammar
	toks []impl.Tok
	sets []*waySet
}

func newWaySet() *waySet {
	return &waySet{seen: map[wayKey]bool{}, waiting: map[int][]*way{}, ends: map[[2]int][]*branch{}}
}

// read answers what the symbol gives of all the tokens, or the first fault.
func (r *rowReader) read(symbol string) ([]*branch, impl.Fault) {
	start := r.g.numbers[symbol]
	r.sets = []*waySet{newWaySet()}
	r.expect(0, start)
	for at := 0; ; at++ {
		r.close(at)
		if at == len(r.toks) {
			break
		}
		next := r.scan(at)
		if line, bad := r.badTarget(at, len(next.list) > 0); bad {
			return nil, impl.Fault{Code: impl.FaultTarget, Line: line}
		}
		if len(next.list) == 0 || r.badPattern(at) {
			return nil, impl.Fault{Code: impl.FaultForm, Line: r.toks[at].Line}
		}
		r.sets = append(r.sets, next)
	}
	got, ok := r.sets[len(r.toks)].ends[[2]int{start, 0}]
	if !ok {
		return nil, impl.Fault{Code: impl.FaultForm}
	}
	return got, impl.Fault{}
}

func (r *rowReader) add(at int, w *way) {
	set := r.sets[at]
	key := wayKey{w.row, w.dot, w.from}
	if !set.seen[key] {
		set.seen[key] = true
		set.list = append(set.list, w)
	}
}

// expect begins the rows of a symbol.
func (r *rowReader) expect(at int, symbol int) {
	for _, row := range r.g.rowsOf[symbol] {
		r.add(at, &way{row: row, from: at, start: at})
	}
}

// close goes on with each way as far as no token is needed.
func (r *rowReader) close(at int) {
	set := r.sets[at]
	for i := 0; i < len(set.list); i++ {
		w := set.list[i]
		row := r.g.rows[w.row]
		if w.dot == len(row.right) {
			r.end(at, w)
			continue
		}
		symbol := row.right[w.dot]
		if symbol < 0 {
			continue
		}
		if len(set.waiting[symbol]) == 0 {
			r.expect(at, symbol)
		}
		set.waiting[symbol] = append(set.waiting[symbol], w)
		if got, ok := set.ends[[2]int{symbol, at}]; ok {
			r.add(at, w.over(got, at))
		}
	}
}

// over is the way behind a symbol that gave this, and began there.
func (w *way) over(got []*branch, start int) *way {
	return &way{row: w.row, dot: w.dot + 1, from: w.from, ahead: w, got: got, start: start}
}

// end goes on with the ways that wait for a row's symbol.
func (r *rowReader) end(at int, w *way) {
	symbol := r.g.rows[w.row].left
	key := [2]int{symbol, w.from}
	if _, twice := r.sets[at].ends[key]; twice {
		panic("the rows can be read in two ways: " + r.g.names[symbol])
	}
	got := r.given(w)
	r.sets[at].ends[key] = got
	for _, waits := range r.sets[w.from].waiting[symbol] {
		r.add(at, waits.over(got, w.from))
	}
}

// scan goes over a token.
func (r *rowReader) scan(at int) *waySet {
	next := newWaySet()
	tok := r.toks[at]
	plain, quoted := r.g.tokens[tokenName(tok)], r.g.tokens["'"+tok.Text+"'"]
	if tok.Kind != impl.TkOp && tok.Kind != impl.TkKey {
		quoted = 0
	}
	for _, w := range r.sets[at].list {
		row := r.g.rows[w.row]
		if w.dot == len(row.right) || row.right[w.dot] >= 0 {
			continue
		}
		var got []*branch
		symbol := row.right[w.dot]
		switch {
		case tok.Kind == impl.TkFStr && symbol == r.g.tokens["FSTR^"]:
			got = r.fstring(tok, "round^")
		case tok.Kind == impl.TkFStr && symbol == r.g.tokens["FSTR^f"]:
			got = r.fstring(tok, "round^f")
		case symbol == plain || symbol == quoted:
			got = []*branch{}
		}
		if got == nil || row.fresh == w.dot+1 && w.hasName(tok.Text) {
			continue
		}
		over := w.over(got, at)
		over.text = tok.Text
		next.list = append(next.list, over)
		next.seen[wayKey{over.row, over.dot, over.from}] = true
	}
	return next
}

// tokenName is the big word of a token.
func tokenName(tok impl.Tok) string {
	return []string{"", "NAME", "KEY", "INT", "FLOAT", "STR", "", "OP", "LINE", "INDENT", "DEDENT", "END"}[tok.Kind]
}

// hasName tells whether what the row's first symbol gave has a parameter, or a
// pattern by name, of this name.
func (w *way) hasName(name string) bool {
	for ; w.dot > 1; w = w.ahead {
	}
	return slices.ContainsFunc(w.got, func(b *branch) bool {
		return (b.kind == impl.NParam || b.kind == impl.PKey) && b.text == name
	})
}

// fstring is the node of one, or nothing when a field of it can't be read.
func (r *rowReader) fstring(tok impl.Tok, symbol string) []*branch {
	n := &branch{kind: impl.NFStr, line: tok.Line}
	parts, _ := impl.FParts(tok.Text)
	for _, part := range parts {
		if part.Expr == "" {
			n.kids = append(n.kids, &branch{kind: impl.NStr, text: part.Lit, line: tok.Line})
			continue
		}
		toks, fault := impl.Tokens("(" + part.Expr + ")")
		if fault.Code != 0 {
			return nil
		}
		for i := range toks {
			toks[i].Line = tok.Line
		}
		inner := &rowReader{g: r.g, toks: toks[:len(toks)-2]}
		got, fault := inner.read(symbol)
		if fault.Code != 0 {
			return nil
		}
		n.kids = append(n.kids, &branch{kind: impl.NField, op: part.Conv, text: part.Spec, line: tok.Line, kids: got})
	}
	return []*branch{n}
}

// given is what a row gives that was read to its end.
func (r *rowReader) given(w *way) []*branch {
	row := r.g.rows[w.row]
	steps := make([]*way, len(row.right)+1)
	for ; w.dot > 0; w = w.ahead {
		steps[w.dot] = w
	}
	steps[0] = w
	return r.made(row.parts, steps)
}

func (r *rowReader) made(parts []nodePart, steps []*way) []*branch {
	out := []*branch{}
	for _, part := range parts {
		switch {
		case part.absent:
			out = append(out, &branch{kind: impl.NAbsent})
		case part.node == nil:
			out = append(out, steps[part.symbol].got...)
		default:
			out = append(out, r.node(part.node, steps))
		}
	}
	return out
}

func (r *rowReader) node(form *nodeForm, steps []*way) *branch {
	n := &branch{kind: form.kind, op: form.op, kids: r.made(form.parts, steps)}
	if form.text > 0 {
		step := steps[form.text]
		n.text = step.text
		if len(step.got) > 0 {
			n.text = step.got[0].text
		}
	}
	if at := steps[form.line].start; at < len(r.toks) {
		n.line = r.toks[at].Line
	}
	for i, kid := range n.kids {
		if kid.kind == impl.NAbsent {
			n.kids[i] = &branch{kind: impl.NAbsent, line: n.line}
		}
	}
	switch {
	case n.kind == impl.PCapture && n.text == "_":
		n.kind, n.text = impl.PAny, ""
	case n.kind == impl.PStar && n.text == "_":
		n.text = ""
	}
	return n
}

// badTarget answers the line of a target that ends at a token and can't be
// one. What stands ahead of an = may go on as something else; the others end
// where no token goes on, too.
func (r *rowReader) badTarget(at int, goesOn bool) (int64, bool) {
	text, kind := r.toks[at].Text, r.toks[at].Kind
	isOp := kind == impl.TkOp
	ends := isOp && (text == "," || text == ":") || kind == impl.TkLine || isOp && text == ";" || kind == impl.TkKey && text == "in"
	for _, w := range r.sets[at].list {
		if w.dot == 0 || r.g.rows[w.row].right[w.dot-1] < 0 || len(w.got) != 1 {
			continue
		}
		bad := false
		name, _, _ := strings.Cut(r.g.names[r.g.rows[w.row].right[w.dot-1]], "^")
		switch name {
		case "target":
			bad = isOp && text == "=" && !targetRule(w.got[0], true)
		case "augtarget":
			bad = isOp && len(text) > 1 && strings.Contains(" |= ^= &= <<= >>= += -= *= /= //= %= **= ", " "+text+" ") && !plainTarget(w.got[0])
		case "fortarget":
			bad = (!goesOn || ends && text == "in") && !targetRule(w.got[0], true)
		case "withtarget":
			bad = (!goesOn || ends && (text == "," || text == ":")) && !targetRule(w.got[0], true)
		case "deltarget":
			bad = (!goesOn || ends && text != "," && text != ":" && text != "in") && !targetRule(w.got[0], false)
		}
		if bad {
			return r.toks[w.start].Line, true
		}
	}
	return 0, false
}

func plainTarget(b *branch) bool {
	return b.kind == impl.NName || b.kind == impl.NAttr || b.kind == impl.NIndex
}

// targetRule is the document's section 5.2; of a del no star is in it.
func targetRule(b *branch, stars bool) bool {
	if b.kind != impl.NTuple && b.kind != impl.NList {
		return plainTarget(b)
	}
	many := 0
	for _, kid := range b.kids {
		if kid.kind == impl.NStar {
			many++
			kid = kid.kids[0]
		}
		if !targetRule(kid, stars) {
			return false
		}
	}
	return many == 0 || many == 1 && stars
}

// badPattern tells whether a pattern ends here that can't be one.
func (r *rowReader) badPattern(at int) bool {
	text := r.toks[at].Text
	whole := r.toks[at].Kind == impl.TkOp && text == ":" || r.toks[at].Kind == impl.TkKey && text == "if"
	for _, w := range r.sets[at].list {
		if w.dot == 0 || r.g.rows[w.row].right[w.dot-1] < 0 {
			continue
		}
		switch r.g.names[r.g.rows[w.row].right[w.dot-1]] {
		case "pseq":
			if starsIn(w.got[0]) > 1 {
				return true
			}
		case "pattern":
			if whole && (starsIn(w.got[0]) > 1 || !patternRule(w.got[0])) {
				return true
			}
		}
	}
	return false
}

func starsIn(b *branch) int {
	many := 0
	for _, kid := range b.kids {
		if b.kind == impl.PSeq && kid.kind == impl.PStar {
			many++
		}
	}
	return many
}

// patternRule is what the document says of names that a pattern binds, and of
// sides that always match.
func patternRule(b *branch) bool {
	if b.kind == impl.POr {
		for i, side := range b.kids {
			if !slices.Equal(bindsRule(side), bindsRule(b.kids[0])) || i < len(b.kids)-1 && alwaysRule(side) {
				return false
			}
		}
	}
	names := bindsRule(b)
	for i, name := range names {
		if i > 0 && names[i-1] == name {
			return false
		}
	}
	return !slices.ContainsFunc(b.kids, func(kid *branch) bool { return !patternRule(kid) })
}

// bindsRule are the names that a pattern binds, as often as it does, sorted; of
// an or those of its first side.
func bindsRule(b *branch) []string {
	var names []string
	switch b.kind {
	case impl.PCapture, impl.PStar, impl.PRest, impl.PAs:
		if b.text != "" {
			names = append(names, b.text)
		}
	case impl.POr:
		return bindsRule(b.kids[0])
	}
	for _, kid := range b.kids {
		names = append(names, bindsRule(kid)...)
	}
	slices.Sort(names)
	return names
}

func alwaysRule(b *branch) bool {
	return b.kind == impl.PCapture || b.kind == impl.PAny || b.kind == impl.PAs && alwaysRule(b.kids[0])
}

// parseRule is Parse by the rows.
func parseRule(src string) (impl.Tree, impl.Fault) {
	toks, fault := impl.Tokens(src)
	if fault.Code != 0 {
		return impl.Tree{}, fault
	}
	r := &rowReader{g: theGrammar(), toks: toks}
	got, fault := r.read("file")
	if fault.Code != 0 {
		return impl.Tree{}, fault
	}
	tree := treeOf(got[0])
	if len(tree.Nodes) > impl.MaxNodes || deepest(got[0]) > impl.MaxDeep {
		return impl.Tree{}, impl.Fault{Code: impl.FaultDeep}
	}
	return tree, impl.Fault{}
}

// deepest is how many nodes the deepest one has above it.
func deepest(b *branch) int {
	most := 0
	for _, kid := range b.kids {
		most = max(most, deepest(kid)+1)
	}
	return most
}
