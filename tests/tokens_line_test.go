package tests

import (
	"strings"
	"testing"

	"loop.example/g00009/impl"
)

func TestP4Lines(t *testing.T) {
	for src, want := range map[string]string{
		"":                          "1:end",
		"a":                         "1:name(a) 1:line 1:end",
		"a\n":                       "1:name(a) 1:line 1:end",
		"a ":                        "1:name(a) 1:line 1:end",
		"a\t\n":                     "1:name(a) 1:line 1:end",
		"\n\na":                     "3:name(a) 3:line 3:end",
		"a\n\n\n":                   "1:name(a) 1:line 1:end",
		"a\nb":                      "1:name(a) 1:line 2:name(b) 2:line 2:end",
		"a b\tc \t d":               "1:name(a) 1:name(b) 1:name(c) 1:name(d) 1:line 1:end",
		"a # b\nc":                  "1:name(a) 1:line 2:name(c) 2:line 2:end",
		"a#b":                       "1:name(a) 1:line 1:end",
		"# a\n  # b\nc\n    # d":    "3:name(c) 3:line 3:end",
		"a\n    # b\n  \n\t\nc":     "1:name(a) 1:line 5:name(c) 5:line 5:end",
		"'#' # '":                   "1:str(#) 1:line 1:end",
		"'''\n#\n''' # '''\na":      "1:str(\n#\n) 1:line 4:name(a) 4:line 4:end",
		"a '''\n\n''' b":            "1:name(a) 1:str(\n\n) 3:name(b) 3:line 3:end",
		"'a\\\n\\\nb'\nc":           "1:str(ab) 1:line 4:name(c) 4:line 4:end",
		"r'a\\\nb' c":               "1:str(a\\\nb) 2:name(c) 2:line 2:end",
		"f'a\\\nb' c":               "1:fstr(a\\\nb) 2:name(c) 2:line 2:end",
		"a;b":                       "1:name(a) 1:op(;) 1:name(b) 1:line 1:end",
		"a\n'''x\ny\nz'''":          "1:name(a) 1:line 2:str(x\ny\nz) 2:line 2:end",
		"  '''\n'''\n":              "1:indent 1:str(\n) 1:line 1:dedent 1:end",
		"(\n\n'''\n'''\n\n)\n\n# x": "1:op(() 3:str(\n) 6:op()) 6:line 6:end",
	} {
		wantToks(t, src, want)
	}
}

func TestP4LinesThatGoOn(t *testing.T) {
	for src, want := range map[string]string{
		"a \\\n b":               "1:name(a) 2:name(b) 2:line 2:end",
		"a\\\nb":                 "1:name(a) 2:name(b) 2:line 2:end",
		"1\\\n2":                 "1:int(1) 2:int(2) 2:line 2:end",
		"*\\\n*":                 "1:op(*) 2:op(*) 2:line 2:end",
		"r\\\n'a'":               "1:name(r) 2:str(a) 2:line 2:end",
		"a \\\n\tb":              "1:name(a) 2:name(b) 2:line 2:end",
		"a \\\n\\\n\\\nb":        "1:name(a) 4:name(b) 4:line 4:end",
		"a \\\n":                 "1:name(a) 1:line 1:end",
		"a \\\n\nb":              "1:name(a) 1:line 3:name(b) 3:line 3:end",
		"a \\\n# b\nc":           "1:name(a) 1:line 3:name(c) 3:line 3:end",
		"a # \\\nb":              "1:name(a) 1:line 2:name(b) 2:line 2:end",
		"# \\\nb":                "2:name(b) 2:line 2:end",
		"\\\na":                  "2:name(a) 2:line 2:end",
		"\\\n\n a":               "3:indent 3:name(a) 3:line 3:dedent 3:end",
		"  \\\n  a":              "2:indent 2:name(a) 2:line 2:dedent 2:end",
		"a\n  \\\n  b\n    c":    "1:name(a) 1:line 3:indent 3:name(b) 3:line 4:name(c) 4:line 4:dedent 4:end",
		"a\n\\\n  b\n  c":        "1:name(a) 1:line 3:indent 3:name(b) 3:line 4:name(c) 4:line 4:dedent 4:end",
		"a\n  b\n \\\n\\\n c\nd": "1:name(a) 1:line 2:indent 2:name(b) 2:line 5:name(c) 5:line 6:dedent 6:name(d) 6:line 6:end",
		"a\n  b\n  \\\n\nc":      "1:name(a) 1:line 2:indent 2:name(b) 2:line 5:dedent 5:name(c) 5:line 5:end",
		"(\\\na\\\n)":            "1:op(() 2:name(a) 3:op()) 3:line 3:end",
		"'a\\\n'":                "1:str(a) 1:line 1:end",
	} {
		wantToks(t, src, want)
	}
	for src, line := range map[string]int64{"\\": 1, "a \\": 1, "a\n\\": 2, "\\ \n": 1, "\\a": 1, "a \\\t\nb": 1, "\\\\\n": 1, "\\\n\\": 2, "(\n\\": 2, "(\\ \n)": 1, "\\# a\n": 1, "a\n # b\n\n   \\": 4} {
		wantFault(t, src, impl.FaultChar, line)
	}
}

func TestP4Indentations(t *testing.T) {
	for src, want := range map[string]string{
		" a":                        "1:indent 1:name(a) 1:line 1:dedent 1:end",
		"a\n b":                     "1:name(a) 1:line 2:indent 2:name(b) 2:line 2:dedent 2:end",
		"a\n b\n c\nd":              "1:name(a) 1:line 2:indent 2:name(b) 2:line 3:name(c) 3:line 4:dedent 4:name(d) 4:line 4:end",
		"a\n b\n   c\nd":            "1:name(a) 1:line 2:indent 2:name(b) 2:line 3:indent 3:name(c) 3:line 4:dedent 4:dedent 4:name(d) 4:line 4:end",
		"a\n b\n   c\n d":           "1:name(a) 1:line 2:indent 2:name(b) 2:line 3:indent 3:name(c) 3:line 4:dedent 4:name(d) 4:line 4:dedent 4:end",
		"a\n b\n   c\n\n# x\n":      "1:name(a) 1:line 2:indent 2:name(b) 2:line 3:indent 3:name(c) 3:line 3:dedent 3:dedent 3:end",
		"a\n  b\n# x\n # y\n  c":    "1:name(a) 1:line 2:indent 2:name(b) 2:line 5:name(c) 5:line 5:dedent 5:end",
		"a\n  (b,\n c)\n  d":        "1:name(a) 1:line 2:indent 2:op(() 2:name(b) 2:op(,) 3:name(c) 3:op()) 3:line 4:name(d) 4:line 4:dedent 4:end",
		"a\n  '''\nb'''\n  c":       "1:name(a) 1:line 2:indent 2:str(\nb) 2:line 4:name(c) 4:line 4:dedent 4:end",
		"(\n\ta\n  b\n c)":          "1:op(() 2:name(a) 3:name(b) 4:name(c) 4:op()) 4:line 4:end",
		"a\tb\n \n\t\n  # x\nc":     "1:name(a) 1:name(b) 1:line 5:name(c) 5:line 5:end",
		"a\n b\nc\n  d\ne\n   f\ng": "1:name(a) 1:line 2:indent 2:name(b) 2:line 3:dedent 3:name(c) 3:line 4:indent 4:name(d) 4:line 5:dedent 5:name(e) 5:line 6:indent 6:name(f) 6:line 7:dedent 7:name(g) 7:line 7:end",
	} {
		wantToks(t, src, want)
	}
	for src, line := range map[string]int64{
		"  a\n b": 2, "a\n  b\n c": 3, "a\n  b\n\n# x\n c": 5, "a\n b\n   c\n  d": 4, "a\n  b\n    c\n   d\ne": 4, "a\n    b\n   c\n  d": 3,
		"\ta": 1, " \ta": 1, "\t a": 1, "a\n\tb": 2, "a\n  b\n  \tc": 3, "a\n  b\n\t  c": 3, "a\n  b\n\tc": 3, "a\n\\\n\tb": 3, "\n\n\t(": 3,
		"a\n  b\n $": 3, "a\n  b\n )": 3, "a\n  b\n '": 3, "a\n  b\n 01": 3, "\t$": 1, "\t\\": 1,
	} {
		wantFault(t, src, impl.FaultIndent, line)
	}
}

func TestP4MostIndentations(t *testing.T) {
	most := nested(impl.MaxIndent + 1)
	toks, fault := impl.Tokens(most)
	if fault != (impl.Fault{}) || len(toks) != 4*impl.MaxIndent+3 {
		t.Fatal("no", impl.MaxIndent, "indentations:", fault)
	}
	for i, tok := range toks[len(toks)-impl.MaxIndent-1:] {
		want := impl.Tok{Kind: impl.TkDedent, Line: impl.MaxIndent + 1}
		if i == impl.MaxIndent {
			want.Kind = impl.TkEnd
		}
		if tok != want {
			t.Error("at the end stands", tok, "and not", want)
		}
	}
	wantFault(t, nested(impl.MaxIndent+2), impl.FaultLarge, impl.MaxIndent+2)
	deeper := strings.Repeat(" ", impl.MaxIndent+1)
	wantFault(t, most+deeper+"$", impl.FaultLarge, impl.MaxIndent+2)
	wantFault(t, most+deeper+"\t$", impl.FaultIndent, impl.MaxIndent+2)
	// Lines that are nothing have no indentation; ended ones do not count.
	for _, behind := range []string{deeper, deeper + "# x\n", deeper + "\n", "a\n b\n", "(\n" + deeper + "b)\n"} {
		if _, fault := impl.Tokens(most + behind); fault != (impl.Fault{}) {
			t.Errorf("%q: %v", behind, fault)
		}
	}
	if _, fault := impl.Tokens(strings.Repeat(most, 4)); fault != (impl.Fault{}) {
		t.Error("indentations that ended count:", fault)
	}
}

func TestP4Brackets(t *testing.T) {
	wantKinds(t, "([{}])", "op(() op([) op({) op(}) op(]) op())")
	wantKinds(t, "(\n[\n\n{\n}\n] #\n)", "op(() op([) op({) op(}) op(]) op())")
	wantKinds(t, "()[]{}", "op(() op()) op([) op(]) op({) op(})")
	wantKinds(t, "a[\n0]", "name(a) op([) int(0) op(])")
	wantKinds(t, "(')', # )\n)", "op(() str()) op(,) op())")
	for src, line := range map[string]int64{
		"(": 1, "\n(\n": 2, "a[\n": 1, "{\n\n": 1, "(\n[\n": 2, "(\n[\n]\n": 1, "[\n(\n\n{\n\n": 4, "(#)": 1, "(')'": 1, "(a\n  b": 1,
		")": 1, "]": 1, "}": 1, "\n)": 2, "())": 1, "(\n\n]": 3, "(]": 1, "[)": 1, "{)": 1, "(}": 1, "[\n}\n": 2, "([)]": 1, "(\n)\n)\n": 3, "{(})": 1,
	} {
		wantFault(t, src, impl.FaultBracket, line)
	}
	for _, pair := range []string{"()", "[]", "{}"} {
		open, closing := pair[:1], pair[1:]
		deep := strings.Repeat(open, impl.MaxNest)
		if _, fault := impl.Tokens(strings.Repeat(deep+strings.Repeat(closing, impl.MaxNest)+" ", 3)); fault != (impl.Fault{}) {
			t.Error(pair, fault)
		}
		wantFault(t, deep, impl.FaultBracket, 1)
		wantFault(t, "\n"+deep+"\n"+open, impl.FaultLarge, 3)
		wantFault(t, deep+open+strings.Repeat(closing, impl.MaxNest+1), impl.FaultLarge, 1)
		wantFault(t, deep+"$"+open, impl.FaultChar, 1)
	}
	wantFault(t, strings.Repeat("([{\n", impl.MaxNest/3)+"(", impl.FaultLarge, 1+impl.MaxNest/3)
}

func TestP4FirstFault(t *testing.T) {
	for _, c := range []struct {
		src  string
		code int64
		line int64
	}{
		{"$\n)", impl.FaultChar, 1}, {")\n$", impl.FaultBracket, 1}, {"1x\n'", impl.FaultNumber, 1}, {"'\n1x", impl.FaultString, 1},
		{"a\n  b\n c $", impl.FaultIndent, 3}, {"a $\n  b\n c", impl.FaultChar, 1}, {"( $", impl.FaultChar, 1}, {"(\n1x", impl.FaultNumber, 2}, {"(\n'", impl.FaultString, 2}, {"(\n]\n$", impl.FaultBracket, 2},
		{"01 $ ' )", impl.FaultNumber, 1}, {strings.Repeat("a", 61) + " 01", impl.FaultLarge, 1}, {"01 " + strings.Repeat("a", 61), impl.FaultNumber, 1},
		{"1e999x", impl.FaultNumber, 1}, {"1e999 01", impl.FaultLarge, 1}, {strings.Repeat("9", 2000) + ".x", impl.FaultNumber, 1}, {strings.Repeat("9", 2000) + "_", impl.FaultNumber, 1}, {strings.Repeat("9", 2000) + " 01", impl.FaultLarge, 1},
		{"\n$\r", impl.FaultText, 0}, {"\n'\xff", impl.FaultText, 0}, {"1é", impl.FaultChar, 1}, {"'\\q' $", impl.FaultString, 1}, {"$ '\\q'", impl.FaultChar, 1},
		{"'''\n\n\\q'''", impl.FaultString, 1}, {"\nf'''\n{'''\n$", impl.FaultString, 2}, {"a\n'''\n\n", impl.FaultString, 2}, {"'''\n''' 1x", impl.FaultNumber, 2},
	} {
		wantFault(t, c.src, c.code, c.line)
	}
}

func TestP4NoText(t *testing.T) {
	for _, s := range noTexts() {
		wantFault(t, s, impl.FaultText, 0)
		wantFault(t, "'"+s+"'", impl.FaultText, 0)
		wantFault(t, "# "+s, impl.FaultText, 0)
	}
	for _, s := range []string{"\r", "a\r\n", "# \r", "'\r'", "'''\r'''", "a\n\r", "'\\\r\n'", "$\n\r", "\\\r"} {
		wantFault(t, s, impl.FaultText, 0)
	}
	most := strings.Repeat("a\n", impl.MaxText/2)
	if toks, fault := impl.Tokens(most); fault != (impl.Fault{}) || len(toks) != impl.MaxText+1 || toks[impl.MaxText] != (impl.Tok{Kind: impl.TkEnd, Line: impl.MaxText / 2}) {
		t.Error("MaxText bytes of names are refused:", fault)
	}
	wantFault(t, most+"\n", impl.FaultText, 0)
	wantToks(t, "#"+strings.Repeat(threeBytes, (impl.MaxText-1)/3), "1:end")
	wantFault(t, "#"+strings.Repeat(threeBytes, (impl.MaxText-1)/3)+"a", impl.FaultText, 0)
	wantOne(t, "'"+strings.Repeat("a", impl.MaxText-2)+"'", impl.TkStr, strings.Repeat("a", impl.MaxText-2))
	wantFault(t, "'"+strings.Repeat("a", impl.MaxText-1)+"'", impl.FaultText, 0)
}
