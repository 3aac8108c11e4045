package tests

import (
	"math/rand"
	"slices"
	"strconv"
	"strings"
	"testing"

	"loop.example/g00009/impl"
)

// kindWords are the kinds of tokens by their numbers in the document.
func kindWords() []string {
	return []string{"none", "name", "key", "int", "float", "str", "fstr", "op", "line", "indent", "dedent", "end"}
}

// told is a list of tokens as a text: 1:name(a) 1:line 1:end.
func told(toks []impl.Tok) string {
	words := make([]string, len(toks))
	for i, tok := range toks {
		words[i] = strconv.FormatInt(tok.Line, 10) + ":" + toldKind(tok)
	}
	return strings.Join(words, " ")
}

// toldKinds is the same without the lines.
func toldKinds(toks []impl.Tok) string {
	words := make([]string, len(toks))
	for i, tok := range toks {
		words[i] = toldKind(tok)
	}
	return strings.Join(words, " ")
}

func toldKind(tok impl.Tok) string {
	word := kindWords()[tok.Kind]
	if tok.Kind >= 8 && tok.Text == "" {
		return word
	}
	return word + "(" + tok.Text + ")"
}

// wantToks wants the tokens as told tells them, and no fault.
func wantToks(t *testing.T, src string, want string) {
	t.Helper()
	toks, fault := impl.Tokens(src)
	if fault != (impl.Fault{}) || told(toks) != want {
		t.Errorf("%.80q: %v %s; wanted %s", src, fault, told(toks), want)
	}
}

// wantKinds wants the tokens ahead of the last TkLine and the TkEnd, but for
// their lines.
func wantKinds(t *testing.T, src string, want string) {
	t.Helper()
	toks, fault := impl.Tokens(src)
	if fault != (impl.Fault{}) || toldKinds(toks) != want+" line end" {
		t.Errorf("%.80q: %v %s; wanted %s", src, fault, shown(toldKinds(toks)), shown(want))
	}
}

// wantOne wants one token, of that kind and text, and a line's end.
func wantOne(t *testing.T, src string, kind int64, text string) {
	t.Helper()
	want := []impl.Tok{{Kind: kind, Text: text, Line: 1}, {Kind: impl.TkLine, Line: 1}, {Kind: impl.TkEnd, Line: 1}}
	if toks, fault := impl.Tokens(src); fault != (impl.Fault{}) || !slices.Equal(toks, want) {
		t.Errorf("%s: %v %s; wanted %s", shown(src), fault, shown(told(toks)), shown(told(want)))
	}
}

// wantFault wants that fault, and no tokens.
func wantFault(t *testing.T, src string, code int64, line int64) {
	t.Helper()
	toks, fault := impl.Tokens(src)
	if fault != (impl.Fault{Code: code, Line: line}) || len(toks) != 0 {
		t.Errorf("%.80q: %v %s; wanted fault %d in line %d", src, fault, shown(told(toks)), code, line)
	}
}

// nested are n lines, each with a blank more in front than the one ahead of it,
// the first with none: n - 1 indentations.
func nested(n int) string {
	var out strings.Builder
	for i := range n {
		out.WriteString(strings.Repeat(" ", i) + "a\n")
	}
	return out.String()
}

// keyWords are all words that are no names.
func keyWords() []string {
	return strings.Fields("and as assert break case class continue def del elif else except finally for from global if import in is lambda match nonlocal not or pass raise return try while with yield False None True")
}

// operators are all of them.
func operators() []string {
	return strings.Fields("** // << >> <= >= == != := += -= *= /= %= &= |= ^= **= //= <<= >>= + - * / % @ & | ^ ~ < > ( ) [ ] { } , : . ; =")
}

// mixed is a text of n of these words, always the same for a seed.
func mixed(seed int64, words []string, n int) string {
	r := rand.New(rand.NewSource(seed))
	var out strings.Builder
	for range n {
		out.WriteString(words[r.Intn(len(words))])
	}
	return out.String()
}
