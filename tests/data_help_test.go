package tests

import (
	"encoding/json"
	"fmt"
	"io"
	"math/big"
	"math/rand"
	"regexp"
	"slices"
	"strconv"
	"strings"
	"testing"
	"unicode/utf8"

	"loop.example/g00009/impl"
)

// datum is data as a tree of its own, from which the nodes are laid.
type datum struct {
	kind int64
	text string
	kids []datum
}

func leaf(kind int64, text string) datum     { return datum{kind: kind, text: text} }
func textLeaf(text string) datum             { return leaf(impl.JText, text) }
func intLeaf(text string) datum              { return leaf(impl.JInt, text) }
func floatLeaf(text string) datum            { return leaf(impl.JFloat, text) }
func listData(kids ...datum) datum           { return datum{kind: impl.JList, kids: kids} }
func dictData(pairs ...datum) datum          { return datum{kind: impl.JDict, kids: pairs} }
func pairData(key string, value datum) datum { return datum{impl.JPair, key, []datum{value}} }

func (d datum) json() impl.Json {
	j := impl.Json{}
	d.layInto(&j)
	return j
}

func (d datum) layInto(j *impl.Json) int64 {
	n := impl.JNode{Kind: d.kind, Text: d.text}
	for _, kid := range d.kids {
		n.Kids = append(n.Kids, kid.layInto(j))
	}
	j.Nodes = append(j.Nodes, n)
	return int64(len(j.Nodes) - 1)
}

// inLists is data with so many lists around it, inDicts with so many dicts.
func (d datum) inLists(n int) datum {
	for range n {
		d = listData(d)
	}
	return d
}

func (d datum) inDicts(n int) datum {
	for range n {
		d = dictData(pairData("k", d))
	}
	return d
}

func sameJNode(a impl.JNode, b impl.JNode) bool {
	return a.Kind == b.Kind && a.Text == b.Text && slices.Equal(a.Kids, b.Kids)
}

func sameJson(a impl.Json, b impl.Json) bool { return slices.EqualFunc(a.Nodes, b.Nodes, sameJNode) }

func copyJson(j impl.Json) impl.Json {
	out := impl.Json{Nodes: slices.Clone(j.Nodes)}
	for i := range out.Nodes {
		out.Nodes[i].Kids = slices.Clone(out.Nodes[i].Kids)
	}
	return out
}

func jsonTold(j impl.Json) string {
	words := []string{"null", "false", "true", "int", "float", "text", "list", "dict", "pair"}
	out := []string{}
	for i, n := range j.Nodes {
		word := fmt.Sprint("kind ", n.Kind)
		if n.Kind >= 0 && n.Kind < int64(len(words)) {
			word = words[n.Kind]
		}
		if n.Text != "" {
			word += fmt.Sprintf("=%.40q", n.Text)
		}
		if len(n.Kids) > 0 {
			word += strings.ReplaceAll(fmt.Sprint(n.Kids), " ", ",")
		}
		if out = append(out, word); i > 40 {
			break
		}
	}
	return strings.Join(out, " ")
}

var wholeNumber = regexp.MustCompile(`^-?(0|[1-9][0-9]*)(\.[0-9]+)?([eE][+-]?[0-9]+)?$`)
var integerText = regexp.MustCompile(`^(0|-?[1-9][0-9]*)$`)

// goesOn tells whether data can begin with p: one of a few ends has to fit.
func goesOn(p string) bool {
	closers, inText := "", false
	for i := 0; i < len(p); i++ {
		switch c := p[i]; {
		case inText && c == '\\':
			i++
		case c == '"':
			inText = !inText
		case inText:
		case c == '[':
			closers = "]" + closers
		case c == '{':
			closers = "}" + closers
		case (c == ']' || c == '}') && closers != "":
			closers = closers[1:]
		}
	}
	ends := []string{"", "0", ":0", `"":0`, "rue", "ue", "e", "alse", "lse", "se", "ull", "ll", "l"}
	if inText {
		ends = []string{`"`, `n"`, `0000"`, `000"`, `00"`, `0"`, `":0`, `n":0`, `0000":0`, `000":0`, `00":0`, `0":0`}
	}
	return slices.ContainsFunc(ends, func(end string) bool { return json.Valid([]byte(p + end + closers)) })
}

// formPlace is the first byte of s at which the form of data does not go on,
// whatever the values are; its length when more has to come, or all is there.
func formPlace(s string) int {
	lo, hi := 0, len(s)
	for lo < hi {
		if mid := (lo + hi + 1) / 2; goesOn(s[:mid]) {
			lo = mid
		} else {
			hi = mid - 1
		}
	}
	return lo
}

// otherFault is the first of the faults of values in p, which data can begin
// with as far as their form goes.
type otherFault struct {
	p      string
	stack  []byte
	keys   []map[string]int
	isKey  bool
	places []int
}

func (f *otherFault) fault(at int) { f.places = append(f.places, at) }

func (f *otherFault) above() int {
	return len(f.stack) + strings.Count(string(f.stack), "{")
}

func (f *otherFault) begin(at int) {
	if f.above() > 60 {
		f.fault(at)
	}
}

// token goes over what begins at a place and answers the next one.
func (f *otherFault) token(at int) int {
	switch c := f.p[at]; c {
	case ' ', '\t', '\n', '\r':
		return at + 1
	case '[', '{':
		f.begin(at)
		f.stack, f.keys, f.isKey = append(f.stack, c), append(f.keys, map[string]int{}), c == '{'
		return at + 1
	case ']', '}':
		f.stack, f.keys, f.isKey = f.stack[:len(f.stack)-1], f.keys[:len(f.keys)-1], false
		return at + 1
	case ',', ':':
		f.isKey = c == ',' && f.stack[len(f.stack)-1] == '{'
		return at + 1
	case '"':
		return f.text(at)
	}
	f.begin(at)
	end := at
	for end < len(f.p) && strings.IndexByte(" \t\n\r[]{},:\"", f.p[end]) < 0 {
		end++
	}
	if number := f.p[at:end]; wholeNumber.MatchString(number) && !canBeRead(number) {
		f.fault(at)
	}
	return end
}

func canBeRead(number string) bool {
	if !strings.ContainsAny(number, ".eE") {
		x, _ := new(big.Int).SetString(number, 10)
		return len(number) <= 5000 && x.BitLen() <= 4096
	}
	_, exponent, _ := strings.Cut(strings.ToLower(number), "e")
	_, err := strconv.ParseFloat(number, 64)
	return len(number) <= 400 && len(strings.TrimLeft(exponent, "+-")) <= 4 && err == nil
}

func (f *otherFault) text(at int) int {
	if !f.isKey {
		f.begin(at)
	}
	end := at + 1
	for end < len(f.p) && f.p[end] != '"' {
		if f.p[end] != '\\' {
			end++
			continue
		}
		end = f.escape(end)
	}
	if end >= len(f.p) {
		return len(f.p)
	}
	if f.isKey {
		keys, key := f.keys[len(f.keys)-1], ""
		if json.Unmarshal([]byte(f.p[at:end+1]), &key); keys[key] > 0 {
			f.fault(at)
		}
		keys[key]++
	}
	return end + 1
}

var fullUnit = regexp.MustCompile(`^\\u[0-9a-fA-F]{4}`)
var highUnit = regexp.MustCompile(`^\\u[dD][89abAB][0-9a-fA-F]{2}`)
var lowUnit = regexp.MustCompile(`^\\u[dD][c-fC-F][0-9a-fA-F]{2}`)

func (f *otherFault) escape(at int) int {
	switch rest := f.p[at:]; {
	case lowUnit.MatchString(rest), highUnit.MatchString(rest) && !lowUnit.MatchString(rest[6:]):
		f.fault(at)
	case highUnit.MatchString(rest):
		return at + 12
	case fullUnit.MatchString(rest):
		return at + 6
	}
	return at + 2
}

// jsonByRule is JsonRead a second time: the form by trying ends, the values of
// what fits by a walk over it, the nodes by the library's tokens.
func jsonByRule(s string) (impl.Json, int64) {
	if !utf8.ValidString(s) || len(s) > 16384 {
		return impl.Json{}, 0
	}
	place := formPlace(s)
	f := otherFault{p: s[:place]}
	for at := 0; at < place && len(f.places) == 0; {
		at = f.token(at)
	}
	if len(f.places) > 0 {
		return impl.Json{}, int64(f.places[0])
	}
	if !json.Valid([]byte(s)) {
		return impl.Json{}, int64(place)
	}
	j := dataByTokens(s).json()
	if len(j.Nodes) > 5000 {
		return impl.Json{}, 0
	}
	return j, -1
}

func dataByTokens(s string) datum {
	dec := json.NewDecoder(strings.NewReader(s))
	dec.UseNumber()
	return nextDatum(dec)
}

func nextToken(dec *json.Decoder) json.Token {
	tok, err := dec.Token()
	if err != nil && err != io.EOF {
		panic(err)
	}
	return tok
}

func nextDatum(dec *json.Decoder) datum {
	switch tok := nextToken(dec).(type) {
	case bool:
		if tok {
			return leaf(impl.JTrue, "")
		}
		return leaf(impl.JFalse, "")
	case json.Number:
		return numberLeaf(tok.String())
	case string:
		return textLeaf(tok)
	case json.Delim:
		out := datum{kind: impl.JList}
		if tok == '{' {
			out.kind = impl.JDict
		}
		for dec.More() {
			if tok == '{' {
				key := nextToken(dec).(string)
				out.kids = append(out.kids, pairData(key, nextDatum(dec)))
			} else {
				out.kids = append(out.kids, nextDatum(dec))
			}
		}
		nextToken(dec)
		return out
	}
	return leaf(impl.JNull, "")
}

func numberLeaf(number string) datum {
	if !strings.ContainsAny(number, ".eE") {
		x, _ := new(big.Int).SetString(number, 10)
		return intLeaf(x.String())
	}
	return floatLeaf(floatText(number))
}

// textByRule is JsonText of data that may be: lines are moved to the right as a
// whole, as no text has a newline in it.
func textByRule(d datum, indent int) string {
	quoted := strings.NewReplacer(quotePairs()...)
	switch d.kind {
	case impl.JNull, impl.JFalse, impl.JTrue:
		return []string{"null", "false", "true"}[d.kind]
	case impl.JInt, impl.JFloat:
		return d.text
	case impl.JText:
		return `"` + quoted.Replace(d.text) + `"`
	case impl.JPair:
		return `"` + quoted.Replace(d.text) + `": ` + textByRule(d.kids[0], indent)
	}
	kids := []string{}
	for _, kid := range d.kids {
		kids = append(kids, textByRule(kid, indent))
	}
	brackets := map[int64]string{impl.JList: "[]", impl.JDict: "{}"}[d.kind]
	inner := strings.Join(kids, ", ")
	if indent > 0 && len(kids) > 0 {
		margin := "\n" + strings.Repeat(" ", indent)
		inner = margin + strings.ReplaceAll(strings.Join(kids, ",\n"), "\n", margin) + "\n"
	}
	return brackets[:1] + inner + brackets[1:]
}

func quotePairs() []string {
	out := []string{`"`, `\"`, `\`, `\\`, "\b", `\b`, "\f", `\f`, "\n", `\n`, "\r", `\r`, "\t", `\t`, "\x7f", `\u007f`}
	for c := range 32 {
		out = append(out, string(rune(c)), fmt.Sprintf(`\u%04x`, c))
	}
	return out
}

func wantData(t *testing.T, s string) {
	t.Helper()
	got, at := impl.JsonRead(s)
	want, place := jsonByRule(s)
	if at != place || !sameJson(got, want) {
		t.Fatalf("%s: %s, %d; by the rule %s, %d", shown(s), jsonTold(got), at, jsonTold(want), place)
	}
	if at != -1 {
		return
	}
	if !impl.JsonOk(got) {
		t.Fatalf("%s is read and is not JsonOk", shown(s))
	}
	wantReadBack(t, got)
}

// wantReadBack wants data that are written to be read as the same.
func wantReadBack(t *testing.T, j impl.Json) {
	t.Helper()
	for indent := range int64(9) {
		text, ok := impl.JsonText(j, indent)
		if !ok {
			continue
		}
		if again, at := impl.JsonRead(text); at != -1 || !sameJson(again, j) {
			t.Fatalf("%s, written with %d, is read as %s, %d", jsonTold(j), indent, jsonTold(again), at)
		}
	}
}

// jsonOkByRule is JsonOk a second time: the tree is gone down from its root, and
// laid anew from there.
func jsonOkByRule(j impl.Json) bool {
	if len(j.Nodes) < 1 || len(j.Nodes) > 5000 {
		return false
	}
	left := len(j.Nodes)
	d, ok := datumAt(j, int64(len(j.Nodes)-1), &left)
	return ok && d.kind != impl.JPair && d.isOk(0) && sameJson(d.json(), j)
}

func datumAt(j impl.Json, at int64, left *int) (datum, bool) {
	n := j.Nodes[at]
	d := leaf(n.Kind, n.Text)
	if *left--; *left < 0 {
		return d, false
	}
	for _, kid := range n.Kids {
		if kid < 0 || kid >= at {
			return d, false
		}
		below, ok := datumAt(j, kid, left)
		if !ok {
			return d, false
		}
		d.kids = append(d.kids, below)
	}
	return d, true
}

func (d datum) isOk(above int) bool {
	ok := above <= 60
	for _, kid := range d.kids {
		ok = ok && kid.isOk(above+1) && (kid.kind == impl.JPair) == (d.kind == impl.JDict)
	}
	isText := utf8.ValidString(d.text) && len(d.text) <= 16384
	switch d.kind {
	case impl.JNull, impl.JFalse, impl.JTrue:
		return ok && d.text == "" && len(d.kids) == 0
	case impl.JInt:
		return ok && integerText.MatchString(d.text) && canBeRead(d.text) && len(d.kids) == 0
	case impl.JFloat:
		return ok && isFinite(d.text) && len(d.kids) == 0
	case impl.JText:
		return ok && isText && len(d.kids) == 0
	case impl.JList:
		return ok && d.text == ""
	case impl.JDict:
		keys := []string{}
		for _, kid := range d.kids {
			keys = append(keys, kid.text)
		}
		slices.Sort(keys)
		return ok && d.text == "" && len(slices.Compact(keys)) == len(d.kids)
	case impl.JPair:
		return ok && isText && len(d.kids) == 1
	}
	return false
}

func floatText(number string) string {
	x, _ := impl.FloatRead(strings.ToLower(number))
	return impl.FloatText(x)
}

func isFinite(s string) bool {
	x, ok := impl.FloatRead(s)
	return ok && !isNan(x) && !isInf(x) && impl.FloatText(x) == s
}

func drawnDataText(r *rand.Rand) string {
	points := []rune("ab\"\\/\b\f\n\r\t\x00\x1f\x7f\u0080é日\uffff😀 {}[]:,")
	out := []rune{}
	for range r.Intn(5) {
		out = append(out, points[r.Intn(len(points))])
	}
	return string(out)
}

func drawnDatum(r *rand.Rand, deep int) datum {
	kind := r.Int63n(8)
	if deep == 0 {
		kind = r.Int63n(6)
	}
	switch kind {
	case impl.JInt:
		return intLeaf(someInts(r.Int63(), 1, 1+r.Intn(3))[0].String())
	case impl.JFloat:
		return floatLeaf(impl.FloatText(someFloats(r.Int63(), 1)[0]))
	case impl.JText:
		return textLeaf(drawnDataText(r))
	case impl.JList, impl.JDict:
		return drawnItems(r, kind, deep)
	}
	return leaf(kind, "")
}

func drawnItems(r *rand.Rand, kind int64, deep int) datum {
	out := datum{kind: kind}
	seen := map[string]bool{}
	for range r.Intn(5) {
		kid := drawnDatum(r, deep-1)
		if kind == impl.JList {
			out.kids = append(out.kids, kid)
		} else if key := drawnDataText(r); !seen[key] {
			seen[key] = true
			out.kids = append(out.kids, pairData(key, kid))
		}
	}
	return out
}
