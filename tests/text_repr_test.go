package tests

import (
	"strconv"
	"strings"
	"testing"

	"loop.example/g00009/impl"
)

// unrepr reads a repr by the document's words; false when it is none.
func unrepr(s string) (string, bool) {
	if len(s) < 2 || s[0] != '\'' && s[0] != '"' || s[len(s)-1] != s[0] {
		return "", false
	}
	quote, rest := s[:1], s[1:len(s)-1]
	out := ""
	for rest != "" {
		if rest[:1] == quote {
			return "", false
		}
		if rest[0] != '\\' {
			out, rest = out+rest[:1], rest[1:]
			continue
		}
		point, n := unescape(rest, quote)
		if n == 0 {
			return "", false
		}
		out, rest = out+point, rest[n:]
	}
	return out, true
}

// unescape answers what the escape at the front of s stands for, and its length.
func unescape(s string, quote string) (string, int) {
	if len(s) < 2 {
		return "", 0
	}
	switch s[1:2] {
	case "\\", quote:
		return s[1:2], 2
	case "n":
		return "\n", 2
	case "t":
		return "\t", 2
	case "r":
		return "\r", 2
	case "x":
		if n, err := strconv.ParseUint(s[2:min(len(s), 4)], 16, 8); err == nil && len(s) >= 4 && s[2:4] == strings.ToLower(s[2:4]) {
			return string(rune(n)), 4
		}
	}
	return "", 0
}

func TestP3ReprIsReadBack(t *testing.T) {
	list := append(someTexts(81, 4000, 12, "'\"\\\n\t\r\x00\x01\x1b\x1f\x7f\u0080nx0aé日😀\ufffd"), allTexts("'\"\\n", 5)...)
	for _, s := range append(list, edgeTexts()...) {
		repr := impl.TextRepr(s)
		if back, ok := unrepr(repr); !ok || back != s {
			t.Errorf("the repr of %s is %s, which is read as %s, %v", shown(s), shown(repr), shown(back), ok)
		}
		quote := "'"
		if strings.Contains(s, "'") && !strings.Contains(s, "\"") {
			quote = "\""
		}
		if !strings.HasPrefix(repr, quote) || !strings.HasSuffix(repr, quote) {
			t.Errorf("the repr of %s is %s", shown(s), shown(repr))
		}
	}
}

// Each code point there is, alone between two others.
func TestP3ReprOfEachCodePoint(t *testing.T) {
	short := map[rune]string{'\n': `\n`, '\t': `\t`, '\r': `\r`, '\\': `\\`}
	const hex = "0123456789abcdef"
	for r := rune(0); r <= 0x10ffff; r++ {
		if r >= 0xd800 && r < 0xe000 {
			continue
		}
		s := string(r)
		want := "'a" + s + "b'"
		switch {
		case short[r] != "":
			want = "'a" + short[r] + "b'"
		case r == '\'':
			want = "\"a'b\""
		case r < 32 || r == 127:
			want = "'a\\x" + hex[r/16:r/16+1] + hex[r%16:r%16+1] + "b'"
		}
		if got := impl.TextRepr("a" + s + "b"); got != want {
			t.Errorf("the repr with %#x is %q; wanted %q", r, got, want)
		}
	}
}

func TestP3ReprByHand(t *testing.T) {
	for s, want := range map[string]string{
		"": `''`, "a": `'a'`, "it's": `"it's"`, `say "a"`: `'say "a"'`, `'"`: `'\'"'`, `"'"'`: `'"\'"\''`, `\`: `'\\'`, `\'`: `"\\'"`, `\"`: `'\\"'`, `\'"`: `'\\\'"'`, "a\nb\tc\rd": `'a\nb\tc\rd'`, `\n`: `'\\n'`, "\x00": `'\x00'`, "\x07\x08\x0b\x0c\x1b": `'\x07\x08\x0b\x0c\x1b'`, "\x7f": `'\x7f'`, "\u0080\u00a0\u2028": "'\u0080\u00a0\u2028'", "é日😀": "'é日😀'", badMark: "'" + badMark + "'", "~ ": "'~ '", "''": `"''"`, `""`: `'""'`,
	} {
		if got := impl.TextRepr(s); got != want {
			t.Errorf("the repr of %q is %s; wanted %s", s, got, want)
		}
	}
}

// A repr may have more than MaxText bytes, as nothing refuses it.
func TestP3ReprOfTheLongest(t *testing.T) {
	for s, one := range map[string]string{"a": "a", "\x01": `\x01`, "\n": `\n`, `\`: `\\`, fourBytes: fourBytes} {
		n := impl.MaxText / len(s)
		if got := impl.TextRepr(strings.Repeat(s, n)); got != "'"+strings.Repeat(one, n)+"'" {
			t.Errorf("the repr of many %q: %s", s, shown(got))
		}
	}
	for _, bad := range noTexts() {
		if got := impl.TextRepr(bad); got != "" {
			t.Errorf("the repr of %s: %s", shown(bad), shown(got))
		}
	}
}
