package tests

import (
	"math/rand"
	"slices"
	"strings"
	"sync"
)

// targetRows say how targets are written that can be some; treeRows, which
// read them, leave that open.
const targetRows = `
lonetarget^ = NAME
lonetarget^ = tail^ '.' NAME
lonetarget^ = tail^ '[' subscript^ ']'
lonetarget^ = '(' lonetarget^ ')'
onetarget^ = lonetarget^
onetarget^ = '(' ')'
onetarget^ = '[' ']'
onetarget^ = '(' onetarget^ ')'
onetarget^ = '(' sometargets^ ')'
onetarget^ = '[' onetarget^ ']'
onetarget^ = '[' '*' onetarget^ ']'
onetarget^ = '[' sometargets^ ']'
sometargets^ = onetarget^ ','
sometargets^ = onetarget^ ',' onetarget^
sometargets^ = '*' onetarget^ ','
sometargets^ = '*' onetarget^ ',' onetarget^
sometargets^ = onetarget^ ',' onetarget^ ',' '*' onetarget^ ','
anytarget^ = onetarget^
anytarget^ = sometargets^
goneone^ = lonetarget^
goneone^ = '(' gone^ ')'
goneone^ = '[' gone^ ']'
gone^ = goneone^
gone^ = goneone^ ',' goneone^
gone^ = goneone^ ','
`

// rowWriter writes texts that the rows allow, always the same for a seed.
type rowWriter struct {
	g     *treeGrammar
	least []int
	r     *rand.Rand
}

// writtenInstead are the rows of targets that can be some.
func writtenInstead() map[string]string {
	return map[string]string{"target": "anytarget", "fortarget": "anytarget", "withtarget": "onetarget", "augtarget": "lonetarget", "deltarget": "gone"}
}

// writerGrammar is that of the second parser, with the targets' rows beside.
var writerGrammar = sync.OnceValue(func() *rowWriter {
	g := newTreeGrammar(treeRows + targetRows)
	w := &rowWriter{g: g, least: make([]int, len(g.names))}
	for i := range w.least {
		w.least[i] = 1000
	}
	for changed := true; changed; {
		changed = false
		for _, row := range g.rows {
			if n := w.cost(row); n < w.least[row.left] {
				w.least[row.left], changed = n, true
			}
		}
	}
	return w
})

func newRowWriter(seed int64) *rowWriter {
	w := *writerGrammar()
	w.r = rand.New(rand.NewSource(seed))
	return &w
}

// cost is how many rows within one another a row needs; one that only goes on
// with another costs nothing.
func (w *rowWriter) cost(row treeRow) int {
	most := 0
	for _, symbol := range row.right {
		if symbol >= 0 {
			most = max(most, w.least[symbol])
		}
	}
	if isUnit(row) {
		return most
	}
	return most + 1
}

// weight says how often a row is taken: names more than other atoms, and of the
// levels of operators mostly the next.
func (w *rowWriter) weight(name string, row treeRow, ahead int) int {
	switch {
	case strings.HasPrefix(name, "atom"):
		if isUnit(row) && w.g.names[row.right[0]] == "name" {
			return 14
		}
	case strings.HasPrefix(name, "stmts") || strings.HasPrefix(name, "suite"):
		if len(row.right) == 2 {
			return 3
		}
	case isUnit(row) && !strings.Contains(name, "~"):
		return max(1, 4*ahead)
	}
	return 1
}

func isUnit(row treeRow) bool { return len(row.right) == 1 && row.right[0] >= 0 }

// write answers tokens that a symbol allows, with some budget of rows.
func (w *rowWriter) write(name string, budget int) []string {
	base, in, _ := strings.Cut(name, "^")
	if other := writtenInstead()[base]; other != "" && w.r.Intn(40) > 0 {
		name = other + "^" + in
	}
	var fit []treeRow
	for _, i := range w.g.rowsOf[w.g.numbers[name]] {
		row := w.g.rows[i]
		if w.cost(row) <= max(budget, w.least[row.left]) {
			fit = append(fit, slices.Repeat([]treeRow{row}, w.weight(name, row, len(fit)))...)
		}
	}
	row := fit[w.r.Intn(len(fit))]
	if !isUnit(row) && !strings.HasPrefix(name, "stmts") && !strings.HasPrefix(name, "suite") {
		budget--
	}
	var out []string
	for _, symbol := range row.right {
		if symbol >= 0 {
			out = append(out, w.write(w.g.names[symbol], budget)...)
		} else {
			out = append(out, w.token(symbol, budget))
		}
	}
	return out
}

func (w *rowWriter) one(list ...string) string { return list[w.r.Intn(len(list))] }

// token writes a token; the ends of lines and indentations as big words.
func (w *rowWriter) token(symbol int, budget int) string {
	name := w.g.tokenNames[-1-symbol]
	switch name {
	case "NAME":
		return w.one("a", "b", "c", "d", "e", "i", "k", "x", "y", "z", "_", "f", "r", "self", "n1", "n2", "n3", "n4", "n5", "n6")
	case "INT":
		return w.one("0", "1", "25", "0x_ff", "0b1")
	case "FLOAT":
		return w.one("1.5", ".5", "2.", "1e5", "1e-7")
	case "STR":
		return w.one("'a'", `"b\n"`, "''", `r'\d'`, "'''it's'''", `'"'`)
	case "FSTR^", "FSTR^f":
		return w.fstring(strings.TrimPrefix(name, "FSTR"), budget)
	}
	return strings.Trim(name, "'")
}

// fstring writes one with an expression of the rows in it, where that has no
// sign that a field can't have.
func (w *rowWriter) fstring(in string, budget int) string {
	field := strings.TrimSpace(strings.Join(w.write(w.one("e", "e", "list")+in, min(budget, 2)), " "))
	if strings.ContainsAny(field, "'\"\\#\n") {
		field = "a"
	}
	if field[0] == '{' {
		// Two of them would be none.
		field = " " + field
	}
	return w.one("f'{"+field+"}'", "f\"{"+field+"!r}b\"", "f'x{"+field+":>3}{a}'", "f''", "f'{{}}'")
}

// laid puts tokens into lines. They need not be in an order that is allowed.
func laid(r *rand.Rand, toks []string) string {
	var out strings.Builder
	indent, open, fresh := 0, 0, true
	for i, tok := range toks {
		switch tok {
		case "INDENT":
			indent++
			continue
		case "DEDENT":
			indent = max(indent-1, 0)
			continue
		case "END":
			continue
		case "LINE":
			if r.Intn(20) == 0 {
				out.WriteString("  # 'note (")
			}
			out.WriteString("\n")
			if r.Intn(20) == 0 {
				out.WriteString("\n   # note\n")
			}
			fresh = true
			continue
		}
		if fresh {
			out.WriteString(strings.Repeat("  ", indent))
		} else {
			out.WriteString(gapAhead(r, toks[i-1], tok, open))
		}
		fresh = false
		out.WriteString(tok)
		if strings.Contains("([{", tok) {
			open++
		} else if strings.Contains(")]}", tok) {
			open--
		}
	}
	return out.String()
}

// gapAhead stands between two tokens of a line.
func gapAhead(r *rand.Rand, ahead string, tok string, open int) string {
	switch n := r.Intn(40); {
	case n < 3 && open > 0:
		return "\n" + strings.Repeat(" ", n)
	case n == 3 && open > 0:
		return " # note )\n\n "
	case n == 4:
		return " \\\n "
	case n < 20 && (strings.Contains("()[]{},", ahead) || strings.Contains("()[]{},", tok)):
		return ""
	case n == 20:
		return " \t"
	}
	return " "
}

// changed answers tokens with a few of them taken out, put in, put in place of
// others, or moved.
func changed(r *rand.Rand, toks []string, all []string) []string {
	out := slices.Clone(toks)
	for range 1 + r.Intn(2) {
		if len(out) == 0 {
			break
		}
		i, other := r.Intn(len(out)), all[r.Intn(len(all))]
		switch r.Intn(5) {
		case 0:
			out = slices.Delete(out, i, i+1)
		case 1:
			out = slices.Insert(out, i, other)
		case 2:
			out[i] = other
		case 3:
			out[i] = out[r.Intn(len(out))]
		case 4:
			j := r.Intn(len(out))
			out[i], out[j] = out[j], out[i]
		}
	}
	return out
}

// allWords are tokens of every kind.
func allWords() []string {
	list := append(keyWords(), operators()...)
	return append(list, "a", "b", "_", "1", "1.5", "'s'", "f'{a}'", "f'{+}'", "f'{yield}'", "LINE", "INDENT", "DEDENT", "*", "**", "=", ",", ":", "for", "in", "if", "else")
}
