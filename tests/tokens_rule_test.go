package tests

import (
	"math"
	"regexp"
	"slices"
	"strconv"
	"strings"
	"testing"

	"loop.example/g00009/impl"
)

// The document's tokens once more, otherwise: regular expressions cut a text
// into pieces, pieces become lines, lines become tokens.

// Kinds of pieces that are no tokens.
const (
	ruleBlank = -1 - iota
	ruleTab
	ruleNothing
	ruleNewline
)

// rulePiece is a piece of a text. It begins in line.
type rulePiece struct {
	kind  int64
	raw   string
	text  string
	line  int64
	fault int64
}

// ruleLine is a line as it counts, with the newline that ends it.
type ruleLine []rulePiece

var (
	ruleInt      = regexp.MustCompile(`^(?:0x(?:_?[0-9a-f])+|0o(?:_?[0-7])+|0b(?:_?[01])+|[1-9](?:_?[0-9])*|0)`)
	ruleFloat    = regexp.MustCompile(`^(?:(?:[0-9]+\.[0-9]*|\.[0-9]+)(?:e[+-]?[0-9]{1,4})?|[0-9]+e[+-]?[0-9]{1,4})`)
	ruleNumber   = regexp.MustCompile(`^(?:[0-9]|\.[0-9])`)
	ruleBehind   = regexp.MustCompile(`^[A-Za-z0-9._]`)
	ruleName     = regexp.MustCompile(`^[A-Za-z_][A-Za-z0-9_]*`)
	ruleString   = regexp.MustCompile(`^[rf]?['"]`)
	ruleTriple   = regexp.MustCompile(`(?s)^([rf]?)(?:'''((?:\\.|[^\\])*?)'''|"""((?:\\.|[^\\])*?)""")`)
	ruleSingle   = regexp.MustCompile(`(?s)^([rf]?)(?:'((?:\\.|[^\\'\n])*)'|"((?:\\.|[^\\"\n])*)")`)
	ruleThree    = regexp.MustCompile(`^[rf]?(?:'''|""")`)
	ruleOperator = regexp.MustCompile(`^(?:\*\*=?|//=?|<<=?|>>=?|[<>=!:+*/%&|^-]=|[-+*/%@&|^~<>()[\]{},:.;=])`)
	ruleEscape   = regexp.MustCompile(`(?s)\\(?:x[0-9a-fA-F]{2}|u[0-9a-fA-F]{4}|.|$)`)
)

// numberRule is the number that s begins with.
func numberRule(s string) rulePiece {
	whole, float := ruleInt.FindString(s), ruleFloat.FindString(s)
	if len(float) > impl.MaxFloatText {
		float = ""
	}
	raw := whole
	if len(float) > len(whole) {
		raw = float
	}
	p := rulePiece{kind: impl.TkInt, raw: raw}
	switch {
	case raw == "" || ruleBehind.MatchString(s[len(raw):]):
		p.fault = impl.FaultNumber
	case raw == whole:
		n, ok := bigOf(strings.ReplaceAll(raw, "_", ""))
		p.text = n
		if !ok {
			p.fault = impl.FaultLarge
		}
	default:
		p.kind = impl.TkFloat
		x, err := strconv.ParseFloat(raw, 64)
		p.text = impl.FloatText(bitsOf(x))
		if err != nil || math.IsInf(x, 0) {
			p.fault = impl.FaultLarge
		}
	}
	return p
}

// bigOf is the decimal text of an integer with its base in front.
func bigOf(raw string) (string, bool) {
	base := int64(10)
	if len(raw) > 2 {
		if named := map[string]int64{"0x": 16, "0o": 8, "0b": 2}[raw[:2]]; named != 0 {
			base, raw = named, raw[2:]
		}
	}
	n, ok := impl.BigRead(raw, base)
	return impl.BigText(n, 10), ok
}

// stringRule is the string that s begins with.
func stringRule(s string) rulePiece {
	form := ruleSingle
	if ruleThree.MatchString(s) {
		form = ruleTriple
	}
	found := form.FindStringSubmatch(s)
	if found == nil {
		return rulePiece{kind: impl.TkStr, fault: impl.FaultString}
	}
	p := rulePiece{kind: impl.TkStr, raw: found[0], text: found[2] + found[3]}
	ok := true
	switch found[1] {
	case "f":
		p.kind = impl.TkFStr
		_, ok = impl.FParts(p.text)
	case "":
		p.text, ok = valueRule(p.text)
	}
	if !ok {
		p.fault = impl.FaultString
	}
	return p
}

// valueRule reads escapes.
func valueRule(raw string) (string, bool) {
	points, ok := decoded(raw)
	if !ok || len(raw) > impl.MaxText {
		return "", false
	}
	simple := map[string]string{"\\\n": "", `\\`: `\`, `\'`: `'`, `\"`: `"`, `\n`: "\n", `\t`: "\t", `\r`: "\r", `\0`: "\x00"}
	value := ruleEscape.ReplaceAllStringFunc(string(points), func(escape string) string {
		if plain, is := simple[escape]; is {
			return plain
		}
		n, err := strconv.ParseUint(strings.TrimLeft(escape, `\xu`), 16, 32)
		if err != nil || len(escape) < 4 || n >= 0xd800 && n < 0xe000 {
			ok = false
		}
		return string(rune(n))
	})
	if !ok {
		return "", false
	}
	return value, true
}

// pieceRule is the piece that s begins with.
func pieceRule(s string) rulePiece {
	note, _, _ := strings.Cut(s, "\n")
	name := ruleName.FindString(s)
	switch {
	case s[0] == ' ':
		return rulePiece{kind: ruleBlank, raw: s[:1]}
	case s[0] == '\t':
		return rulePiece{kind: ruleTab, raw: s[:1]}
	case s[0] == '#':
		return rulePiece{kind: ruleNothing, raw: note}
	case strings.HasPrefix(s, "\\\n"):
		return rulePiece{kind: ruleNothing, raw: s[:2]}
	case s[0] == '\n':
		return rulePiece{kind: ruleNewline, raw: s[:1]}
	case ruleString.MatchString(s):
		return stringRule(s)
	case ruleNumber.MatchString(s):
		return numberRule(s)
	case len(name) > impl.MaxName:
		return rulePiece{kind: impl.TkName, fault: impl.FaultLarge}
	case slices.Contains(keyWords(), name):
		return rulePiece{kind: impl.TkKey, raw: name, text: name}
	case name != "":
		return rulePiece{kind: impl.TkName, raw: name, text: name}
	}
	if op := ruleOperator.FindString(s); op != "" {
		return rulePiece{kind: impl.TkOp, raw: op, text: op}
	}
	return rulePiece{kind: impl.TkOp, fault: impl.FaultChar}
}

// bracketRule is the brackets that are open behind a piece, and its fault.
func bracketRule(opens []rulePiece, p rulePiece) ([]rulePiece, int64) {
	if p.kind != impl.TkOp || p.fault != 0 {
		return opens, p.fault
	}
	switch p.text {
	case "(", "[", "{":
		if len(opens) == impl.MaxNest {
			return opens, impl.FaultLarge
		}
		return append(opens, p), 0
	case ")", "]", "}":
		if len(opens) == 0 || !slices.Contains([]string{"()", "[]", "{}"}, opens[len(opens)-1].text+p.text) {
			return opens, impl.FaultBracket
		}
		return opens[:len(opens)-1], 0
	}
	return opens, 0
}

// linesRule are the lines of a text up to its first piece with a fault, and
// the brackets that are open behind them.
func linesRule(src string) ([]ruleLine, []rulePiece) {
	var lines []ruleLine
	var line ruleLine
	var opens []rulePiece
	for place := 0; place < len(src); {
		p := pieceRule(src[place:])
		p.line = int64(1 + strings.Count(src[:place], "\n"))
		opens, p.fault = bracketRule(opens, p)
		if p.kind == ruleNewline && len(opens) > 0 {
			p.kind = ruleNothing
		}
		line = append(line, p)
		place += len(p.raw)
		if p.fault != 0 {
			break
		}
		if p.kind == ruleNewline {
			lines, line = append(lines, line), nil
		}
	}
	return append(lines, line), opens
}

// front tells how many blanks and tabs are ahead of a line's first token, and
// where that is; -1 when there is none.
func (l ruleLine) front() (int, int, int) {
	blanks, tabs := 0, 0
	for i, p := range l {
		switch {
		case p.kind > 0:
			return blanks, tabs, i
		case p.kind == ruleBlank:
			blanks++
		case p.kind == ruleTab:
			tabs++
		}
	}
	return blanks, tabs, -1
}

func tokensRule(src string) ([]impl.Tok, impl.Fault) {
	if _, ok := decoded(src); !ok || len(src) > impl.MaxText || strings.ContainsRune(src, '\r') {
		return nil, impl.Fault{Code: impl.FaultText}
	}
	var toks []impl.Tok
	counts := []int{0}
	last := int64(1)
	lines, opens := linesRule(src)
	for _, line := range lines {
		blanks, tabs, first := line.front()
		if first < 0 {
			continue
		}
		last = line[first].line
		ends, fault := indentRule(&counts, blanks, tabs)
		if fault != 0 {
			return nil, impl.Fault{Code: fault, Line: last}
		}
		for _, kind := range ends {
			toks = append(toks, impl.Tok{Kind: kind, Line: last})
		}
		for _, p := range line[first:] {
			if p.fault != 0 {
				return nil, impl.Fault{Code: p.fault, Line: p.line}
			}
			if p.kind > 0 {
				last = p.line
				toks = append(toks, impl.Tok{Kind: p.kind, Text: p.text, Line: last})
			}
		}
		toks = append(toks, impl.Tok{Kind: impl.TkLine, Line: last})
	}
	if len(opens) > 0 {
		return nil, impl.Fault{Code: impl.FaultBracket, Line: opens[len(opens)-1].line}
	}
	for range counts[1:] {
		toks = append(toks, impl.Tok{Kind: impl.TkDedent, Line: last})
	}
	return append(toks, impl.Tok{Kind: impl.TkEnd, Line: last}), impl.Fault{}
}

// indentRule are the kinds of the tokens ahead of a line with so many blanks.
func indentRule(counts *[]int, blanks int, tabs int) ([]int64, int64) {
	place := slices.Index(*counts, blanks)
	switch {
	case tabs > 0:
		return nil, impl.FaultIndent
	case place >= 0:
		ends := slices.Repeat([]int64{impl.TkDedent}, len(*counts)-1-place)
		*counts = (*counts)[:place+1]
		return ends, 0
	case blanks < slices.Max(*counts):
		return nil, impl.FaultIndent
	case len(*counts) > impl.MaxIndent:
		return nil, impl.FaultLarge
	}
	*counts = append(*counts, blanks)
	return []int64{impl.TkIndent}, 0
}

// wantRule wants what the rules say.
func wantRule(t *testing.T, src string) {
	t.Helper()
	toks, fault := impl.Tokens(src)
	want, wantFault := tokensRule(src)
	if fault != wantFault || !slices.Equal(toks, want) {
		t.Errorf("%q: %v %s; wanted %v %s", src, fault, told(toks), wantFault, told(want))
	}
}
