package tests

import (
	"fmt"
	"math"
	"math/rand"
	"strings"
	"testing"

	"loop.example/g00009/impl"
)

// wantWritten wants JsonText to answer what the rule says, with every indent.
func wantWritten(t *testing.T, d datum) {
	t.Helper()
	for indent := int64(-2); indent <= 10; indent++ {
		want := ""
		ok := indent >= 0 && indent <= 8
		if ok {
			want = textByRule(d, int(indent))
		}
		if ok = ok && len(want) <= 16384; !ok {
			want = ""
		}
		if got, is := impl.JsonText(d.json(), indent); got != want || is != ok {
			t.Fatalf("%s, indent %d: %s, %v; wanted %s, %v", jsonTold(d.json()), indent, shown(got), is, shown(want), ok)
		}
	}
	wantReadBack(t, d.json())
}

// wantDataLines wants data, read from a text, to be written so with an indent.
func wantDataLines(t *testing.T, s string, indent int64, want string) {
	t.Helper()
	j, at := impl.JsonRead(s)
	if at != -1 {
		t.Fatal(s, at)
	}
	if got, ok := impl.JsonText(j, indent); !ok || got != want {
		t.Errorf("%s, indent %d: %q; wanted %q", s, indent, got, want)
	}
	wantWritten(t, dataByTokens(s))
}

func TestP18Written(t *testing.T) {
	for _, s := range []string{"null", "false", "true", "0", "-1", "1.5", "1e+16", "-0.0", `""`, `"a"`, "[]", "{}", "[[]]", "[{}]"} {
		wantDataLines(t, s, 0, s)
	}
	for _, s := range []string{"null", "-1", "1.5", `"a"`, "[]", "{}"} {
		for indent := range int64(9) {
			wantDataLines(t, s, indent, s)
		}
	}
	wantDataLines(t, "[1,2,3]", 0, "[1, 2, 3]")
	wantDataLines(t, `{"a":1,"b":[]}`, 0, `{"a": 1, "b": []}`)
	wantDataLines(t, `{"a":{"b":{}}}`, 0, `{"a": {"b": {}}}`)
	wantDataLines(t, `[[],[[],{}],{"":[]}]`, 0, `[[], [[], {}], {"": []}]`)
	wantDataLines(t, "[1,2,3]", 1, "[\n 1,\n 2,\n 3\n]")
	wantDataLines(t, "[1]", 8, "[\n        1\n]")
	wantDataLines(t, "[[]]", 2, "[\n  []\n]")
	wantDataLines(t, "[[[]]]", 2, "[\n  [\n    []\n  ]\n]")
	wantDataLines(t, `{"a":1,"b":[]}`, 4, "{\n    \"a\": 1,\n    \"b\": []\n}")
	wantDataLines(t, `{"a":{"b":{}}}`, 3, "{\n   \"a\": {\n      \"b\": {}\n   }\n}")
	wantDataLines(t, `[{"a":[1,{}]},2]`, 2, "[\n  {\n    \"a\": [\n      1,\n      {}\n    ]\n  },\n  2\n]")
	wantDataLines(t, "  1E2 ", 0, "100.0")
	wantDataLines(t, "-0", 0, "0")
}

func TestP18WrittenTexts(t *testing.T) {
	wantDataLines(t, `"\"\\\/\b\f\n\r\t"`, 0, `"\"\\/\b\f\n\r\t"`)
	wantDataLines(t, `"\u0000\u0001\u000b\u000e\u001f\u007f\u0080"`, 0, "\"\\u0000\\u0001\\u000b\\u000e\\u001f\\u007f\u0080\"")
	wantDataLines(t, `"\u001F\u0041\u00e9\ud83d\ude00'/"`, 0, `"\u001fAé😀'/"`)
	wantDataLines(t, `{"\n\u007f\"":"\u2028"}`, 0, "{\"\\n\\u007f\\\"\": \"\u2028\"}")
	for c := range rune(300) {
		wantWritten(t, textLeaf(string(c)))
		wantWritten(t, dictData(pairData("a"+string(c)+"b", listData(textLeaf(string(c)+string(c))))))
	}
	for c := rune(32); c < 127; c++ {
		want := string(c)
		if c == '"' || c == '\\' {
			want = `\` + want
		}
		if got, ok := impl.JsonText(textLeaf(string(c)).json(), 0); !ok || got != `"`+want+`"` {
			t.Error(got)
		}
	}
	for c, want := range map[rune]string{8: `\b`, 9: `\t`, 10: `\n`, 12: `\f`, 13: `\r`} {
		if got, ok := impl.JsonText(textLeaf(string(c)).json(), 0); !ok || got != `"`+want+`"` {
			t.Error(got)
		}
	}
	for _, c := range []rune{0, 1, 7, 11, 14, 31, 127} {
		if got, ok := impl.JsonText(textLeaf(string(c)).json(), 0); !ok || got != fmt.Sprintf(`"\u%04x"`, c) {
			t.Error(got)
		}
	}
}

func TestP18WrongIndents(t *testing.T) {
	for _, d := range []datum{leaf(impl.JNull, ""), listData(), listData(textLeaf("a"))} {
		for _, indent := range []int64{-1, 9, -8, 10, math.MaxInt64, math.MinInt64, 1 << 32, 1<<32 + 2, 256} {
			if text, ok := impl.JsonText(d.json(), indent); ok || text != "" {
				t.Error(indent, text)
			}
		}
	}
}

// TestP18LongestTexts are texts of exactly MaxText bytes, and of one more.
func TestP18LongestTexts(t *testing.T) {
	for _, d := range []func(fill string) datum{
		textLeaf,
		func(fill string) datum { return listData(textLeaf(fill)) },
		func(fill string) datum {
			return listData(intLeaf("1"), textLeaf(fill), listData(), dictData(pairData("a", floatLeaf("1.5"))))
		},
		func(fill string) datum {
			return dictData(pairData(fill, leaf(impl.JNull, "")), pairData("", dictData()))
		},
		func(fill string) datum { return listData(textLeaf(fill), textLeaf("\n\x01")) },
		func(fill string) datum { return textLeaf(fill).inLists(40) },
		func(fill string) datum { return textLeaf("\x7f" + fill).inDicts(30) },
	} {
		for indent := range 9 {
			rest := impl.MaxText - len(textByRule(d(""), indent))
			for _, over := range []int{-1, 0, 1, 2, 100} {
				filled := d(strings.Repeat("a", rest+over))
				text, ok := impl.JsonText(filled.json(), int64(indent))
				if ok != (over <= 0) || ok && text != textByRule(filled, indent) || !ok && text != "" {
					t.Errorf("indent %d, %d bytes more than fit: %v, %d bytes", indent, over, ok, len(text))
				}
				if ok {
					wantReadBack(t, filled.json())
				}
			}
		}
	}
}

// TestP18FarTooLong has data of which one writing would fill much memory.
func TestP18FarTooLong(t *testing.T) {
	longest := textLeaf(strings.Repeat("\x01", impl.MaxText))
	many := make([]datum, impl.MaxJson-1)
	for i := range many {
		many[i] = longest
	}
	j := listData(many...).json()
	if !impl.JsonOk(j) {
		t.Error("many long texts")
	}
	for indent := range int64(9) {
		if text, ok := impl.JsonText(j, indent); ok || text != "" {
			t.Error("many long texts are written")
		}
	}
	wantWritten(t, longest)
	wantWritten(t, listData(longest, longest).inLists(50))
}

// TestP18LinesBecomeLong has data that fit on one line, not on lines.
func TestP18LinesBecomeLong(t *testing.T) {
	kids := make([]datum, 2000)
	for i := range kids {
		kids[i] = intLeaf("1")
	}
	wantWritten(t, listData(kids...))
	wantWritten(t, listData(kids...).inLists(59))
	wantWritten(t, listData(kids...).inDicts(20))
	wantWritten(t, listData(kids[:100]...).inDicts(20))
}

func TestP18DrawnData(t *testing.T) {
	inPieces(t, 10000, func(t *testing.T, i int) {
		r := rand.New(rand.NewSource(int64(i) + 30000))
		wantWritten(t, drawnDatum(r, 1+r.Intn(6)))
	})
}

// TestP18ReadWrittenRead: what is read is written, and read again as the same.
func TestP18ReadWrittenRead(t *testing.T) {
	for _, s := range dataTexts() {
		first, at := impl.JsonRead(s)
		if at != -1 {
			t.Fatal(s, at)
		}
		for indent := range int64(9) {
			text, ok := impl.JsonText(first, indent)
			second, at := impl.JsonRead(text)
			again, okAgain := impl.JsonText(second, indent)
			if !ok || at != -1 || !sameJson(first, second) || !okAgain || again != text {
				t.Error(s, "is not read again as the same", indent)
			}
		}
	}
}

func TestP18FloatsReadBack(t *testing.T) {
	for _, x := range append(finiteEdges(), someFloats(77, 20000)...) {
		s := impl.FloatText(x)
		j, at := impl.JsonRead(s)
		if text, ok := impl.JsonText(j, 0); at != -1 || !ok || text != s || j.Nodes[0].Kind != impl.JFloat {
			t.Fatal(s, at, jsonTold(j))
		}
	}
	for _, x := range append(edges(), someInts(78, 3000, 128)...) {
		s := x.String()
		j, at := impl.JsonRead(s)
		if !fits(x) {
			if at != 0 {
				t.Fatal(s, at)
			}
			continue
		}
		if text, ok := impl.JsonText(j, 0); at != -1 || !ok || text != s || j.Nodes[0].Kind != impl.JInt {
			t.Fatal(s, at, jsonTold(j))
		}
	}
}
