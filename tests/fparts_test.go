package tests

import (
	"math/rand"
	"regexp"
	"slices"
	"strings"
	"testing"

	"loop.example/g00009/impl"
)

var (
	ruleLit  = regexp.MustCompile(`^(?:\{\{|\}\}|[^{}])+`)
	rulePair = regexp.MustCompile(`\([^([{)]*\)|\[[^([{\]]*\]|\{[^([{}]*\}`)
	ruleTail = regexp.MustCompile(`^(?:!([rs]))?(?::([^{}]*))?\}`)
)

// inBracketRule tells whether what is behind s stands in a bracket: when the
// pairs are taken out, the innermost first, an opening one is left.
func inBracketRule(s string) bool {
	if less := rulePair.ReplaceAllString(s, ""); less != s {
		return inBracketRule(less)
	}
	return strings.ContainsAny(s, "([{")
}

// fieldRule is the field that s, behind a {, begins with, and its length; 0
// when there is none.
func fieldRule(s string) (impl.FPart, int) {
	for i := range len(s) {
		if !strings.ContainsAny(s[i:i+1], "!:}") || strings.HasPrefix(s[i:], "!=") || inBracketRule(s[:i]) {
			continue
		}
		tail := ruleTail.FindStringSubmatch(s[i:])
		if tail == nil || strings.ContainsAny(s[:i]+tail[2], "'\"\\#\n") || strings.ReplaceAll(s[:i], " ", "") == "" {
			return impl.FPart{}, 0
		}
		conv := map[string]int64{"r": 1, "s": 2}[tail[1]]
		return impl.FPart{Expr: s[:i], Conv: conv, Spec: tail[2]}, i + len(tail[0])
	}
	return impl.FPart{}, 0
}

// partsRule are the parts of an f-string.
func partsRule(raw string) ([]impl.FPart, bool) {
	if _, ok := decoded(raw); !ok || len(raw) > impl.MaxText {
		return nil, false
	}
	var parts []impl.FPart
	for rest := raw; rest != ""; {
		piece := ruleLit.FindString(rest)
		lit, ok := valueRule(strings.NewReplacer("{{", "{", "}}", "}").Replace(piece))
		if !ok {
			return nil, false
		}
		if lit != "" {
			parts = append(parts, impl.FPart{Lit: lit})
		}
		if rest = rest[len(piece):]; rest == "" {
			break
		}
		field, size := fieldRule(rest[1:])
		if rest[0] != '{' || size == 0 {
			return nil, false
		}
		parts, rest = append(parts, field), rest[1+size:]
	}
	if len(parts) > impl.MaxParts {
		return nil, false
	}
	return parts, true
}

func wantParts(t *testing.T, raw string, want ...impl.FPart) {
	t.Helper()
	if got, ok := impl.FParts(raw); !slices.Equal(got, want) || !ok {
		t.Errorf("%q: %+v, %v; wanted %+v", shown(raw), got, ok, want)
	}
}

func wantNoParts(t *testing.T, raw string) {
	t.Helper()
	if got, ok := impl.FParts(raw); len(got) != 0 || ok {
		t.Errorf("%q: %+v, %v; wanted none", shown(raw), got, ok)
	}
}

func lit(s string) impl.FPart { return impl.FPart{Lit: s} }

func field(expr string, conv int64, spec string) impl.FPart {
	return impl.FPart{Expr: expr, Conv: conv, Spec: spec}
}

func TestP4PartsThatAreTexts(t *testing.T) {
	wantParts(t, "")
	for raw, want := range map[string]string{
		"a": "a", "{{": "{", "}}": "}", "{{}}": "{}", "}}{{": "}{", "{{{{": "{{", "}}}}": "}}", "a{{b}}c": "a{b}c", "{{a}}": "{a}", "{{a!r:3}}": "{a!r:3}",
		`\n`: "\n", `\x7b`: "{", `\x7d`: "}", `\x7b\x7d`: "{}", `\u007b{{`: "{{", `\\{{`: `\{`, `\x41{{\x42`: "A{B", "a\\\nb": "ab", `\\`: `\`, `\'\"`: `'"`, `'"`: `'"`, "#": "#", "a\nb\rc\td": "a\nb\rc\td", "!r:3": "!r:3", "()[]": "()[]", "é日😀": "é日😀", " ": " ",
	} {
		wantParts(t, raw, lit(want))
		wantParts(t, raw+"{a}", lit(want), field("a", 0, ""))
		wantParts(t, "{a}"+raw, field("a", 0, ""), lit(want))
		wantParts(t, raw+"{a}"+raw, lit(want), field("a", 0, ""), lit(want))
	}
	// A \ and a newline is nothing, and so no part.
	wantParts(t, "\\\n")
	wantParts(t, "\\\n\\\n{a}\\\n{b}\\\n", field("a", 0, ""), field("b", 0, ""))
	wantParts(t, "\\\n{{{a}", lit("{"), field("a", 0, ""))
	for _, raw := range []string{`\q`, `\`, `\x4`, `\ud800`, `\{{`, `\}}`, `{{\`, `\x{{41`, `\N{{a}}`, "\\\r"} {
		wantNoParts(t, raw)
		wantNoParts(t, "{a}"+raw)
		wantNoParts(t, raw+"{a}")
	}
}

func TestP4PartsThatAreFields(t *testing.T) {
	for raw, want := range map[string]impl.FPart{
		"{a}": field("a", 0, ""), "{ a }": field(" a ", 0, ""), "{a!r}": field("a", 1, ""), "{a!s}": field("a", 2, ""), "{a!r:}": field("a", 1, ""), "{a:}": field("a", 0, ""), "{a:>3}": field("a", 0, ">3"), "{a!s:>3}": field("a", 2, ">3"), "{a :3}": field("a ", 0, "3"), "{a: 3}": field("a", 0, " 3"), "{a !r}": field("a ", 1, ""),
		"{a!=b}": field("a!=b", 0, ""), "{a != b!r}": field("a != b", 1, ""), "{a!=b!=c}": field("a!=b!=c", 0, ""), "{a!=b:3}": field("a!=b", 0, "3"), "{a!=}": field("a!=", 0, ""), "{!=}": field("!=", 0, ""), "{a!==b}": field("a!==b", 0, ""),
		"{a==b}": field("a==b", 0, ""), "{a:=b}": field("a", 0, "=b"), "{(a:=b)}": field("(a:=b)", 0, ""), "{a::b}": field("a", 0, ":b"), "{a:!r}": field("a", 0, "!r"), "{a!r:!r:}": field("a", 1, "!r:"), "{a:()[]}": field("a", 0, "()[]"), "{a:(}": field("a", 0, "("), "{a:!=}": field("a", 0, "!="),
		"{a[1:2]}": field("a[1:2]", 0, ""), "{a[1:2]:3}": field("a[1:2]", 0, "3"), "{f(a!r)!r}": field("f(a!r)", 1, ""), "{(a!b)}": field("(a!b)", 0, ""), "{ {1:2}[1] }": field(" {1:2}[1] ", 0, ""), "{ {a}}": field(" {a}", 0, ""), "{ {} }": field(" {} ", 0, ""), "{({[]})}": field("({[]})", 0, ""), "{[{(:!)}]!s:3}": field("[{(:!)}]", 2, "3"), "{lambda x: 1}": field("lambda x", 0, " 1"), "{(lambda x: 1)}": field("(lambda x: 1)", 0, ""),
		"{\ta}": field("\ta", 0, ""), "{\t}": field("\t", 0, ""), "{a\r}": field("a\r", 0, ""), "{a:\t}": field("a", 0, "\t"), "{é}": field("é", 0, ""), "{a:日^5}": field("a", 0, "日^5"), "{$}": field("$", 0, ""), "{.}": field(".", 0, ""), "{a)}": field("a)", 0, ""), "{a]!r}": field("a]", 1, ""),
	} {
		wantParts(t, raw, want)
		wantParts(t, raw+raw, want, want)
		wantParts(t, "x"+raw+"y", lit("x"), want, lit("y"))
		wantParts(t, "{{"+raw+"}}", lit("{"), want, lit("}"))
	}
	wantParts(t, "a{{{x!r:>3}b", lit("a{"), field("x", 1, ">3"), lit("b"))
	wantParts(t, "{a}}}", field("a", 0, ""), lit("}"))
	wantParts(t, "{a}{{{b}}}{c}", field("a", 0, ""), lit("{"), field("b", 0, ""), lit("}"), field("c", 0, ""))
}

func TestP4PartsThatAreNone(t *testing.T) {
	for _, raw := range []string{
		"{", "}", "{}", "{ }", "{     }", "{!r}", "{:3}", "{ :3}", "{ !s}", "{!r:3}", "{!}", "{:}", "a}", "}a", "}{", "{{}", "{{{", "{{}}}", "}}}", "{{{}}}", "{a}}", "{a}}b", "{{a}", "{a}{", "{a}}{b}", "} }", "{{ }",
		"{a", "{a!", "{a!r", "{a!s:", "{a:3", "{a:", "{(a}", "{[a}", "{ {a}", "{(a!r}", "{a[1:2}", "{f(}", "{([)}", "{(]}", "{[)}", "{ {)}",
		"{a!}", "{a!x}", "{a!a}", "{a!R}", "{a!rs}", "{a!rr}", "{a!r!r}", "{a!r!=b}", "{a! r}", "{a!r }", "{a!r :3}", "{a!:3}", "{a!!r}", "{a!!=b}", "{a!s!r:3}", "{a!r{b}}",
		"{a:{b}}", "{a:{}}", "{a:{{}}}", "{a:3{", "{a:{", "{a!r:{b}}",
		"{'a'}", `{"a"}`, "{a'}", `{a\n}`, `{\x41}`, `{a\}`, "{a#}", "{#}", "{a\n}", "{\n}", "{\na}", "{a\\\n}", "{a:'}", `{a:"}`, `{a:\n}`, `{a:\}`, "{a:#x}", "{a:\n}", "{a!r:#}", "{a!r:\\\n}", "{d['k']}", "{(\n)}", "{a # }", "{a!'r'}",
	} {
		wantNoParts(t, raw)
		wantNoParts(t, "b{{c"+raw)
		wantNoParts(t, "{b!r:3}"+raw)
	}
	for _, s := range noTexts() {
		wantNoParts(t, s)
		wantNoParts(t, "{"+s+"}")
		wantNoParts(t, "{a:"+s+"}")
	}
}

func TestP4MostParts(t *testing.T) {
	for _, two := range []string{"{a}b", "b{a!r:3}", "{a}{b}", "{{{a}"} {
		most := strings.Repeat(two, impl.MaxParts/2)
		if parts, ok := impl.FParts(most); !ok || len(parts) != impl.MaxParts {
			t.Error(two, "as often as it may be:", len(parts), ok)
		}
		wantNoParts(t, most+"{a}")
		wantNoParts(t, most+two)
		wantNoParts(t, strings.Repeat("{a}", impl.MaxParts)+"}}")
	}
	wantParts(t, strings.Repeat("{{", impl.MaxText/2), lit(strings.Repeat("{", impl.MaxText/2)))
	wantParts(t, "{"+strings.Repeat("a", impl.MaxText-2)+"}", field(strings.Repeat("a", impl.MaxText-2), 0, ""))
	deep := strings.Repeat("(", impl.MaxText/2-1) + strings.Repeat(")", impl.MaxText/2-1)
	wantParts(t, "{"+deep+"}", field(deep, 0, ""))
	wantNoParts(t, strings.Repeat("{", impl.MaxText-1))
	wantNoParts(t, strings.Repeat("}", impl.MaxText-1))
	if parts, ok := impl.FParts(strings.Repeat("{a}", impl.MaxParts) + "\\\n"); !ok || len(parts) != impl.MaxParts {
		t.Error("what is nothing counts as a part")
	}
}

func TestP4PartsByTheRule(t *testing.T) {
	var list []string
	for _, alphabet := range []string{"{}a!r:", "{} =!a", "{}()a:", "{}\\\nn'"} {
		list = append(list, allTexts(alphabet, 6)...)
	}
	for seed := range 20000 {
		words := []string{"{", "}", "{{", "}}", "{a", "!r", "!s", "!=", ":", ":3", "(", ")", "[", "]", "{ {", " ", "a", `\n`, `\x7b`, "'", "#", "é"}
		list = append(list, mixed(int64(seed), words, 1+seed%9))
	}
	found := 0
	for _, raw := range list {
		want, ok := partsRule(raw)
		if got, gotOk := impl.FParts(raw); !slices.Equal(got, want) || gotOk != ok {
			t.Errorf("%q: %+v, %v; wanted %+v, %v", raw, got, gotOk, want, ok)
		}
		if ok {
			found++
		}
	}
	if found < 5000 {
		t.Error("too few f-strings:", found)
	}
}

// TestP4PartsAreReadBack puts f-strings together from their parts.
func TestP4PartsAreReadBack(t *testing.T) {
	r := rand.New(rand.NewSource(47))
	one := func(list []string) string { return list[r.Intn(len(list))] }
	lits := []string{"a", "{", "}", "{}", "\n", `\`, "'", "é", "!r", ":", " ", "{a}"}
	written := strings.NewReplacer(`\`, `\\`, "\n", `\n`, "{", "{{", "}", "}}")
	exprs := []string{"a", "a != b", "f(x)[1:2]", " {1: 2} ", "(lambda: 1)", "é", "a if b else c"}
	specs := []string{"", ">3", "+05.2f", "日^9", "=!:"}
	for range 5000 {
		var raw strings.Builder
		var want []impl.FPart
		for range r.Intn(8) {
			if r.Intn(2) == 0 {
				text := one(lits) + one(lits)
				raw.WriteString(written.Replace(text))
				if n := len(want); n > 0 && want[n-1].Lit != "" {
					want[n-1].Lit += text
				} else {
					want = append(want, lit(text))
				}
				continue
			}
			expr, conv, spec := one(exprs), r.Intn(3), one(specs)
			raw.WriteString("{" + expr + []string{"", "!r", "!s"}[conv])
			if spec != "" || r.Intn(2) == 0 {
				raw.WriteString(":" + spec)
			}
			raw.WriteString("}")
			want = append(want, field(expr, int64(conv), spec))
		}
		wantParts(t, raw.String(), want...)
	}
}
