package tests

import (
	"fmt"
	"regexp"
	"strings"
	"testing"

	"loop.example/g00009/impl"
)

func wantValue(t *testing.T, raw string, want string) {
	t.Helper()
	if got, ok := impl.StrValue(raw); got != want || !ok {
		t.Errorf("%q: %q, %v; wanted %q", shown(raw), shown(got), ok, shown(want))
	}
}

func wantNoValue(t *testing.T, raw string) {
	t.Helper()
	if got, ok := impl.StrValue(raw); got != "" || ok {
		t.Errorf("%q: %q, %v; wanted no value", shown(raw), shown(got), ok)
	}
}

func TestP4Escapes(t *testing.T) {
	for raw, want := range map[string]string{
		"": "", "a": "a", "a\\\nb": "ab", "\\\n": "", "\\\n\\\n": "", `\\`: `\`, `\'`: `'`, `\"`: `"`, `\n`: "\n", `\t`: "\t", `\r`: "\r", `\0`: "\x00",
		`\\n`: `\n`, `\\\n`: "\\\n", `\\\\`: `\\`, `a\\`: `a\`, `\01`: "\x001", `\00`: "\x000", `\nn`: "\nn", `'"`: `'"`, "a\nb\tc\rd\x00": "a\nb\tc\rd\x00",
		`\x00`: "\x00", `\x41`: "A", `\x4a`: "J", `\x4A`: "J", `\x7f`: "\x7f", `\x80`: "\u0080", `\xff`: "ÿ", `\xFF`: "ÿ", `\xfF`: "ÿ", `\x411`: "A1", `\x5c`: `\`, `\x5cn`: `\n`, `\x27`: "'", `\x0a`: "\n",
		`\u0000`: "\x00", `\u0041`: "A", `\u00e9`: "é", `\u00E9`: "é", `\u65e5`: "日", `\u65E5`: "日", `\ud7ff`: "\ud7ff", `\ue000`: "\ue000", `\uE000`: "\ue000", `\uffff`: "\uffff", `\ufffd`: badMark, `\u00411`: "A1", `\u005cn`: `\n`,
		"é日😀" + lastPoint: "é日😀" + lastPoint, `é\n日\x41😀`: "é\n日A😀", badMark: badMark,
	} {
		wantValue(t, raw, want)
		wantValue(t, "é"+raw+"z", "é"+want+"z")
		wantValue(t, raw+raw, want+want)
	}
}

func TestP4EscapesThatAreNone(t *testing.T) {
	list := []string{
		`\x`, `\x4`, `\x4g`, `\xg4`, `\x 4`, `\x+4`, `\x-1`, `\x_4`, `\x4_`, `\x4é`, `\x日`, `\X41`, "\\x4\n", `\x\x41`,
		`\u`, `\u0`, `\u00`, `\u004`, `\u004g`, `\u+041`, `\u-041`, `\u0_41`, `\u004é`, `\u 041`, `\U0041`, `\U00000041`, `\u{41}`, `\u00\x41`,
		`\ud800`, `\uD800`, `\udbff`, `\udc00`, `\udfff`, `\uDFFF`, `\ud83d\ude00`, `\uda12`, `\udE34`,
		`\`, `\\\`, `a\`, `\ `, "\\\t", "\\\r", "\\\r\n", `\é`, `\日`, `\😀`, "\\\x00", `\N{a}`,
	}
	for c := range byte(128) {
		if !strings.ContainsRune("\n\\'\"ntr0xu", rune(c)) {
			list = append(list, `\`+string(rune(c)))
		}
	}
	for _, raw := range list {
		wantNoValue(t, raw)
		wantNoValue(t, "é\\n"+raw)
		if raw != `\` && raw != `\\\` && raw != `a\` {
			wantNoValue(t, raw+"~~~~")
			wantFault(t, "\n'"+strings.ReplaceAll(raw, "\r", "R")+"'", impl.FaultString, 2)
		}
	}
}

func TestP4ValuesByTheRule(t *testing.T) {
	list := append(allTexts("\\x4u\n'", 6), someTexts(44, 40000, 14, "\\\\\\xxuu0dDf8Ee'\"ntr\n日😀")...)
	for _, raw := range list {
		want, ok := valueRule(raw)
		if got, gotOk := impl.StrValue(raw); got != want || gotOk != ok {
			t.Errorf("%q: %q, %v; wanted %q, %v", raw, got, gotOk, want, ok)
		}
	}
	for n := range 0x10000 {
		raw := fmt.Sprintf(`\u%04x`, n)
		want, ok := valueRule(raw)
		if got, gotOk := impl.StrValue(raw); got != want || gotOk != ok || ok == (n >= 0xd800 && n < 0xe000) {
			t.Fatalf("%q: %q, %v; wanted %q, %v", raw, got, gotOk, want, ok)
		}
	}
}

func TestP4ValuesOfNoTexts(t *testing.T) {
	for _, s := range noTexts() {
		wantNoValue(t, s)
		wantNoValue(t, `\n`+s)
	}
	wantValue(t, strings.Repeat("a", impl.MaxText), strings.Repeat("a", impl.MaxText))
	wantValue(t, strings.Repeat(`\n`, impl.MaxText/2), strings.Repeat("\n", impl.MaxText/2))
	wantNoValue(t, strings.Repeat(`\n`, impl.MaxText/2)+"a")
	wantNoValue(t, strings.Repeat(`\n`, impl.MaxText/2)+`\n`)
	wantNoValue(t, strings.Repeat(`\`, impl.MaxText-1))
	wantValue(t, strings.Repeat(`\`, impl.MaxText), strings.Repeat(`\`, impl.MaxText/2))
	wantValue(t, strings.Repeat(`\xff`, impl.MaxText/4), strings.Repeat("ÿ", impl.MaxText/4))
}

func TestP4ReprsAreStrings(t *testing.T) {
	list := append(someTexts(45, 4000, 12, "'\"\\\n\t\r\x00\x01\x1b\x1f\x7f\u0080nx0aé日😀\ufffd"), allTexts("'\"\\n", 5)...)
	for _, s := range append(list, edgeTexts()...) {
		if repr := impl.TextRepr(s); len(repr) <= impl.MaxText {
			wantOne(t, repr, impl.TkStr, s)
			wantValue(t, repr[1:len(repr)-1], s)
		}
	}
}

// quoteForms are what may stand between each of the quotes.
func quoteForms() map[string]*regexp.Regexp {
	return map[string]*regexp.Regexp{
		`'`:   regexp.MustCompile(`^(?s:\\.|[^\\'\n])*$`),
		`"`:   regexp.MustCompile(`^(?s:\\.|[^\\"\n])*$`),
		`'''`: regexp.MustCompile(`^(?s:'?'?(?:\\.|[^\\']))*$`),
		`"""`: regexp.MustCompile(`^(?s:"?"?(?:\\.|[^\\"]))*$`),
	}
}

// TestP4StringsAreTheirValues holds tokens against StrValue, as P4 says it.
func TestP4StringsAreTheirValues(t *testing.T) {
	bodies := append(allTexts("'\"\\\nx4", 5), someTexts(46, 20000, 9, "'\"\\\\\\\nxu004nrt1#é日({ ")...)
	for quote, form := range quoteForms() {
		tried := 0
		for _, raw := range bodies {
			// Ahead of its end three quotes have to be the first three.
			if !form.MatchString(raw) || raw == "" {
				continue
			}
			tried++
			wantString(t, quote, raw)
		}
		if tried < 5000 {
			t.Error("too few strings in", quote, tried)
		}
		wantString(t, quote, "")
	}
}

// wantString wants of a string what StrValue tells of what is between its
// quotes, with an r just that.
func wantString(t *testing.T, quote string, raw string) {
	t.Helper()
	wantOne(t, "r"+quote+raw+quote, impl.TkStr, raw)
	value, ok := impl.StrValue(raw)
	if !ok {
		wantFault(t, quote+raw+quote, impl.FaultString, 1)
		return
	}
	wantOne(t, quote+raw+quote, impl.TkStr, value)
	wantKinds(t, "a"+quote+raw+quote+"b", "name(a) str("+value+") name(b)")
}

func TestP4Strings(t *testing.T) {
	for src, want := range map[string]string{
		`''`: "", `""`: "", `''''''`: "", `""""""`: "", `'a'`: "a", `"a"`: "a", `'''a'''`: "a", `"""a"""`: "a",
		`'"'`: `"`, `"'"`: `'`, `'""'`: `""`, `'"""'`: `"""`, `"'''"`: `'''`, `'\''`: `'`, `"\""`: `"`, `'\\'`: `\`, `'\\\''`: `\'`,
		`'''''a'''`: "''a", `''' ' '' '''`: " ' '' ", `'''a\''''`: "a'", `'''\'''\''''`: "''''", `'''"""'''`: `"""`, `"""a"b""c"""`: `a"b""c`, "'''a\nb'''": "a\nb", "'''a\\\nb'''": "ab", "'a\\\nb'": "ab",
		`r''`: "", `r""`: "", `r''''''`: "", `r'\n'`: `\n`, `r'\''`: `\'`, `r"\""`: `\"`, `r'\\'`: `\\`, `r'\q\x\ud800'`: `\q\x\ud800`, `r'''a\''''`: `a\'`, "r'a\\\nb'": "a\\\nb", "r'''a\nb'''": "a\nb", `r'{}'`: "{}",
		`'{'`: "{", `'}'`: "}", `'# no note'`: "# no note", "'a\tb'": "a\tb", "'\x00'": "\x00", "'é日😀'": "é日😀", `'é\n日'`: "é\n日", `'(['`: "([",
	} {
		wantOne(t, src, impl.TkStr, want)
	}
	for src, want := range map[string]string{
		`'a''b'`: "str(a) str(b)", `'a'"b"`: "str(a) str(b)", `'' ''`: "str() str()", `''""`: "str() str()", `''''''''`: "str() str()", `'''a'''''`: "str(a) str()", `"a" 'b'`: "str(a) str(b)", `r'a'r'b'`: "str(a) str(b)", `r'a'f'b'`: "str(a) fstr(b)", `'a'1`: "str(a) int(1)", `'a'if`: "str(a) key(if)", `r 'a'`: "name(r) str(a)", `f 'a'`: "name(f) str(a)",
	} {
		wantKinds(t, src, want)
	}
}

func TestP4StringsThatDoNotEnd(t *testing.T) {
	for _, src := range []string{
		`'`, `"`, `'''`, `"""`, `''''`, `'''''`, `""""`, `'a`, `'a"`, `"a'`, `'a\'`, `'\`, `'\\\'`, `'''a`, `'''a'`, `'''a''`, `'''a\'''`, `'''a"""`, `"""a'''`, `''''a'`, `'''a''''`, `'a''`, `"a""""`,
		`r'`, `r'a`, `r'\'`, `r'''`, `r'''a''`, `f'`, `f'a`, `f'\'`, `f'''`, `f'''a''`, `f"""`, `''r'`, `r'\\\'`,
		"'\n'", "'a\nb'", "\"\n\"", "'a\n", "r'a\nb'", "f'a\nb'", "'a\\\\\nb'", "r'a\\\\\nb'", "'a # b\n'", "'\\\n", "'\\\n\n'", "'''\n''", "r\"\\\n\n\"",
	} {
		wantFault(t, src, impl.FaultString, 1)
		wantFault(t, "\n(\n"+src, impl.FaultString, 3)
		wantFault(t, "  # '\n\\\n  "+src, impl.FaultString, 3)
	}
}

func TestP4FStrings(t *testing.T) {
	for _, raw := range []string{"", "a", "{a}", "{{}}", "{a!r:>3}", `\n{a}\x41`, "{a}{b}", "a{ b }c", "{a[(1, 2)]}", "{{{a}}}", "é{a}日"} {
		for _, quote := range []string{"'", `"`, "'''", `"""`} {
			wantOne(t, "f"+quote+raw+quote, impl.TkFStr, raw)
		}
	}
	wantOne(t, `f'\''`, impl.TkFStr, `\'`)
	wantOne(t, `f"'{a}'"`, impl.TkFStr, "'{a}'")
	wantOne(t, "f'''\n{a}\n'''", impl.TkFStr, "\n{a}\n")
	wantOne(t, "f'''\\\n{a}'''", impl.TkFStr, "\\\n{a}")
	for _, raw := range []string{"}", "{", "{}", "{ }", "{a", "a}", "{a!}", "{a!x}", "{a:{b}}", `\q`, `{a}\ud800`, "{a#}", `{a\n}`, "{a}}", "{{a}", "{a!r", "{(a}"} {
		for _, quote := range []string{"'", `"`, "'''", `"""`} {
			wantFault(t, "a\nf"+quote+raw+quote, impl.FaultString, 2)
			wantOne(t, "r"+quote+raw+quote, impl.TkStr, raw)
		}
	}
	wantFault(t, "f'''{a\n}'''", impl.FaultString, 1)
	wantFault(t, `f'''{a['b']}'''`, impl.FaultString, 1)
	wantFault(t, `f'{a["b"]}'`, impl.FaultString, 1)
	wantFault(t, `f'{a['b']}'`, impl.FaultString, 1)
	wantOne(t, "f'"+strings.Repeat("{a}", impl.MaxParts)+"'", impl.TkFStr, strings.Repeat("{a}", impl.MaxParts))
	wantFault(t, "f'"+strings.Repeat("{a}", impl.MaxParts)+"b'", impl.FaultString, 1)
}
