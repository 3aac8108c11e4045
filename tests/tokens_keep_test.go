package tests

import (
	"slices"
	"strings"
	"testing"

	"loop.example/g00009/impl"
)

// keepSources are texts for each of the layer's functions, faults among them.
func keepSources() []string {
	list := append(programs(), keepTexts()...)
	list = append(list, noTexts()[:8]...)
	return append(list,
		"a", "if", "1", "0x_f", "1_0", "1.5", ".5e5", "'a'", "r'a'", "f'{a}'", `'a\n'`, "'''a'''", "(a)", "a\n  b\n", "# a", "'", "01", "$", ")", "\ta", nested(41), nested(42),
		"a{b!r:>3}c{d}", "{{a}}", `\x41`, `\n`, "{", "}", strings.Repeat("a ", impl.MaxText/2), strings.Repeat("'a'", impl.MaxText/3), strings.Repeat("a\n", impl.MaxText/2), strings.Repeat("{a}", 100), strings.Repeat("{a}", 101),
	)
}

// wantKept wants one answer of two calls, and still after the first one's list
// and its spare room are overwritten.
func wantKept[T comparable, U comparable](t *testing.T, src string, call func(string) ([]T, U), other T) {
	t.Helper()
	first, rest := call(src)
	kept := slices.Clone(first)
	second, again := call(strings.Clone(src))
	if again != rest || !slices.Equal(second, kept) {
		t.Fatal("answered otherwise the second time:", shown(src))
	}
	for i := range first[:cap(first)] {
		first[:cap(first)][i] = other
	}
	third, again := call(src)
	if again != rest || !slices.Equal(second, kept) || !slices.Equal(third, kept) {
		t.Fatal("what was answered is kept:", shown(src))
	}
}

func TestP20TokensTheSameTwice(t *testing.T) {
	for _, src := range keepSources() {
		wantKept(t, src, impl.Tokens, impl.Tok{Kind: -1, Text: "overwritten", Line: -1})
	}
}

func TestP20PartsTheSameTwice(t *testing.T) {
	for _, raw := range keepSources() {
		wantKept(t, raw, impl.FParts, impl.FPart{Lit: "overwritten", Expr: "overwritten", Conv: -1, Spec: "overwritten"})
		value, had := impl.StrValue(raw)
		if other, has := impl.StrValue(strings.Clone(raw)); other != value || has != had {
			t.Fatal("another value the second time:", shown(raw))
		}
	}
}

func TestP20TokensAreNewMemory(t *testing.T) {
	for _, src := range keepSources() {
		given := strings.Clone(src)
		var texts []string
		toks, _ := impl.Tokens(given)
		for _, tok := range toks {
			texts = append(texts, tok.Text)
		}
		parts, _ := impl.FParts(given)
		for _, part := range parts {
			texts = append(texts, part.Lit, part.Expr, part.Spec)
		}
		value, _ := impl.StrValue(given)
		for _, text := range append(texts, value) {
			if sharesMemory(text, given) {
				t.Fatalf("%s shares memory with what was given: %s", shown(text), shown(src))
			}
		}
		if given != src {
			t.Fatal("written into:", shown(src))
		}
	}
}
