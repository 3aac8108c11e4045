package tests

import (
	"fmt"
	"math/rand"
	"slices"
	"strings"
	"testing"

	"loop.example/g00009/impl"
)

// dataRow is a text and its nodes as jsonTold says them, or the place at which
// it does not go on.
type dataRow struct {
	s    string
	want string
}

func wantDataRows(t *testing.T, rows []dataRow) {
	t.Helper()
	for _, row := range rows {
		j, at := impl.JsonRead(row.s)
		got := jsonTold(j)
		if at != -1 {
			got = strings.TrimSpace(fmt.Sprint("at ", at, " ", got))
		}
		if got != row.want {
			t.Errorf("%s: %s; wanted %s", shown(row.s), got, row.want)
		}
		wantData(t, row.s)
	}
}

func TestP18Words(t *testing.T) {
	wantDataRows(t, []dataRow{
		{"null", "null"}, {"false", "false"}, {"true", "true"}, {" \t\r\n null \n\r\t ", "null"},
		{"", "at 0"}, {"  ", "at 2"}, {"n", "at 1"}, {"nul", "at 3"}, {"nulL", "at 3"}, {"nul l", "at 3"}, {"nullx", "at 4"}, {"null null", "at 5"}, {"NULL", "at 0"},
		{"fals", "at 4"}, {"falsE", "at 4"}, {"tru", "at 3"}, {"truee", "at 4"}, {"None", "at 0"}, {"True", "at 0"}, {"x", "at 0"}, {" x", "at 1"},
		{"\v", "at 0"}, {"\f1", "at 0"}, {"\u00a01", "at 0"}, {"\ufeff1", "at 0"}, {"\x001", "at 0"}, {"1\x00", "at 1"}, {"1\u2003", "at 1"}, {"\x7f", "at 0"}, {"é", "at 0"}, {"[é", "at 1"}, {"né", "at 1"},
		{"nan", "at 1"}, {"inf", "at 0"}, {"-inf", "at 1"}, {"Infinity", "at 0"}, {"// 1", "at 0"}, {"1 //", "at 2"}, {"'a'", "at 0"},
	})
}

func TestP18Numbers(t *testing.T) {
	wantDataRows(t, []dataRow{
		{"0", `int="0"`}, {"-0", `int="0"`}, {"7", `int="7"`}, {"-7", `int="-7"`}, {"10", `int="10"`}, {"1234567890123456789012345678901234567890", `int="1234567890123456789012345678901234567890"`},
		{"0.0", `float="0.0"`}, {"-0.0", `float="-0.0"`}, {"-0e0", `float="-0.0"`}, {"0e5", `float="0.0"`}, {"1.0", `float="1.0"`}, {"1.50", `float="1.5"`}, {"1e0", `float="1.0"`}, {"1E2", `float="100.0"`}, {"1e+2", `float="100.0"`}, {"1E+02", `float="100.0"`}, {"1e-2", `float="0.01"`}, {"1.5E-0007", `float="1.5e-07"`}, {"100e14", `float="1e+16"`},
		{"1e-400", `float="0.0"`}, {"-1e-400", `float="-0.0"`}, {"5e-324", `float="5e-324"`}, {"1.7976931348623157e308", `float="1.7976931348623157e+308"`}, {"0e9999", `float="0.0"`},
		{"1e400", "at 0"}, {"-1e400", "at 0"}, {" [1, 1e400]", "at 5"}, {"1.7976931348623159e308", "at 0"}, {"1e00001", "at 0"}, {"0e10000", "at 0"}, {"1e9999", "at 0"}, {"[-1E999]", "at 1"}, {"{\"a\": 1e999", "at 6"}, {"1e400x", "at 0"}, {"[1e400 2]", "at 1"}, {"1e400.5", "at 0"},
		{"-", "at 1"}, {"+1", "at 0"}, {"--1", "at 1"}, {"- 1", "at 1"}, {"-a", "at 1"}, {"-]", "at 1"}, {"[-]", "at 2"}, {"01", "at 1"}, {"-01", "at 2"}, {"00", "at 1"}, {"0x1", "at 1"}, {"1x", "at 1"}, {"1_0", "at 1"}, {"12a", "at 2"},
		{".5", "at 0"}, {"-.5", "at 1"}, {"1.", "at 2"}, {"1.e5", "at 2"}, {"1. 5", "at 2"}, {"1.5.5", "at 3"}, {"0.", "at 2"}, {"1..5", "at 2"}, {"[1.]", "at 3"},
		{"1e", "at 2"}, {"1e+", "at 3"}, {"1e-", "at 3"}, {"1e+-1", "at 3"}, {"1ee5", "at 2"}, {"1e5e5", "at 3"}, {"1e5.5", "at 3"}, {"1ex", "at 2"}, {"e5", "at 0"}, {"1E", "at 2"}, {"1 e5", "at 2"}, {"1e 5", "at 2"}, {"1é", "at 1"}, {"1,", "at 1"},
	})
}

// TestP18LongNumbers has numbers with as many digits as chapters 1 and 2 read,
// and more.
func TestP18LongNumbers(t *testing.T) {
	most := power2(4096)
	most.Sub(most, power2(0))
	over := power2(4096).String()
	wantDataRows(t, []dataRow{
		{over, "at 0"}, {"[1, " + over + "]", "at 4"}, {"-" + over, "at 0"}, {over + "x", "at 0"}, {strings.Repeat("9", 5001), "at 0"}, {"[" + strings.Repeat("1", 5000) + "]", "at 1"},
		{over + ".0", "at 0"}, {"1." + strings.Repeat("0", 399), "at 0"}, {strings.Repeat("1", 396) + ".0e1", "at 0"}, {"-1." + strings.Repeat("0", 398), "at 0"}, {over + "e-1", "at 0"}, {over + "e", "at 1235"}, {over + ".", "at 1235"},
		{"1." + strings.Repeat("0", 398), `float="1.0"`}, {"0." + strings.Repeat("0", 390) + "1e391", `float="1.0"`}, {"-" + strings.Repeat("1", 100) + "." + strings.Repeat("0", 298), `float="-1.111111111111111e+99"`},
	})
	for _, s := range []string{most.String(), "-" + most.String()} {
		if j, at := impl.JsonRead(s); at != -1 || len(j.Nodes) != 1 || j.Nodes[0].Text != s {
			t.Error("the greatest integers", at)
		}
		wantData(t, s)
	}
}

func TestP18Texts(t *testing.T) {
	wantDataRows(t, []dataRow{
		{`""`, "text"}, {`"a"`, `text="a"`}, {`"aé日😀"`, `text="aé日😀"`}, {"\"\x7f\"", `text="\x7f"`}, {"\"\u2028\ufffd\"", `text="\u2028�"`},
		{`"\"\\\/\b\f\n\r\t"`, `text="\"\\/\b\f\n\r\t"`}, {`"/"`, `text="/"`}, {`"'"`, `text="'"`},
		{`"\u0041\u00e9\u00E9\u65e5\uFFFD\uffff"`, `text="Aéé日�\uffff"`}, {`"\u0000"`, `text="\x00"`}, {`"\u001f\u007f\u0022\u005c"`, `text="\x1f\x7f\"\\"`}, {`"\ud7ff\ue000"`, `text="\ud7ff\ue000"`},
		{`"\ud83d\ude00"`, `text="😀"`}, {`"\uD83D\uDE00x"`, `text="😀x"`}, {`"\ud800\udc00\udbff\udfff"`, `text="𐀀\U0010ffff"`}, {`"a\ud834\udd1eb"`, `text="a𝄞b"`},
		{`"`, "at 1"}, {`"a`, "at 2"}, {`"é`, "at 3"}, {`"a""`, "at 3"}, {`"a"b`, "at 3"}, {"\"a\nb\"", "at 2"}, {"\"\x00\"", "at 1"}, {"\"é\x1f\"", "at 3"}, {"\"\t\"", "at 1"}, {"\"a\r", "at 2"},
		{`"\`, "at 2"}, {`"\"`, "at 3"}, {`"\x41"`, "at 2"}, {`"\a"`, "at 2"}, {`"\v"`, "at 2"}, {`"\0"`, "at 2"}, {`"\U0041"`, "at 2"}, {`"\N"`, "at 2"}, {`"\é"`, "at 2"}, {`"\ "`, "at 2"}, {"\"\\\n\"", "at 2"}, {`"\'"`, "at 2"},
		{`"\u`, "at 3"}, {`"\u"`, "at 3"}, {`"\u1`, "at 4"}, {`"\u12"`, "at 5"}, {`"\u123`, "at 6"}, {`"\u123"`, "at 6"}, {`"\u123g"`, "at 6"}, {`"\ug123"`, "at 3"}, {`"\u 123"`, "at 3"}, {`"\u+123"`, "at 3"}, {`"\u12G4"`, "at 5"}, {`"\u1é23"`, "at 4"}, {`"\u{41}"`, "at 3"}, {`"\u-001"`, "at 3"}, {`"\u00:0"`, "at 5"}, {"\"\\u00`0\"", "at 5"}, {`"\u00@0"`, "at 5"}, {`"\u00/0"`, "at 5"},
	})
}

// TestP18Surrogates: what is wrong behind a surrogate is told at its \.
func TestP18Surrogates(t *testing.T) {
	wantDataRows(t, []dataRow{
		{`"\ud800"`, "at 1"}, {`"\udbff"`, "at 1"}, {`"\udc00"`, "at 1"}, {`"\udfff"`, "at 1"}, {`"ab\ud800"`, "at 3"}, {`"é\uDC00"`, "at 3"}, {`"\ud800`, "at 1"}, {`"\udc00`, "at 1"},
		{`"\ud800x"`, "at 1"}, {`"\ud800\n"`, "at 1"}, {`"\ud800\x"`, "at 1"}, {`"\ud800\u0041"`, "at 1"}, {`"\ud800\ud800"`, "at 1"}, {`"\ud800\ud800\udc00"`, "at 1"}, {`"\ud800\ue000"`, "at 1"}, {`"\ud800\udbff"`, "at 1"},
		{`"\udc00\ud800"`, "at 1"}, {`"\udc00\udc00"`, "at 1"}, {`"\udc00\ud800\udc00"`, "at 1"}, {`"\ud800\udc00\udc00"`, "at 13"}, {`"\ud800\udc00\ud800"`, "at 13"}, {`"\ud83d\ude00\ud83d\ude00"`, `text="😀😀"`},
		{`"\ud800\`, "at 1"}, {`"\ud800\u`, "at 1"}, {`"\ud800\ud`, "at 1"}, {`"\ud800\udc`, "at 1"}, {`"\ud800\udc0`, "at 1"}, {`"\ud800\udc00`, "at 13"}, {`"\ud800\udc0"`, "at 1"}, {`"\ud800\udc0g"`, "at 1"}, {`"\ud800\u"`, "at 1"}, {`"\ud800\Udc00"`, "at 1"}, {`"\ud800 \udc00"`, "at 1"}, {`"\ud800/udc00"`, "at 1"},
		{`"\ud8`, "at 5"}, {`"\ud8"`, "at 5"}, {`"\ud80`, "at 6"}, {`"\ud80g"`, "at 6"}, {`"\udc`, "at 5"}, {"\"\\ud800\n\"", "at 1"}, {`["a", "\ud800"]`, "at 7"}, {`{"\ud800": 1}`, "at 2"}, {`{"a": "\udc00"}`, "at 7"},
	})
}

func TestP18Lists(t *testing.T) {
	wantDataRows(t, []dataRow{
		{"[]", "list"}, {"[ \t\n\r]", "list"}, {"[1]", `int="1" list[0]`}, {"[1,2]", `int="1" int="2" list[0,1]`}, {" [ 1 , [ ] , 2 ] ", `int="1" list int="2" list[0,1,2]`}, {"[[1],[2,3]]", `int="1" list[0] int="2" int="3" list[2,3] list[1,4]`}, {`["a",null]`, `text="a" null list[0,1]`},
		{"[", "at 1"}, {"[ ", "at 2"}, {"[1", "at 2"}, {"[1 ", "at 3"}, {"[1,", "at 3"}, {"[1, ", "at 4"}, {"[1,]", "at 3"}, {"[1, ]", "at 4"}, {"[,]", "at 1"}, {"[,1]", "at 1"}, {"[1,,2]", "at 3"}, {"[1 2]", "at 3"}, {"[1}", "at 2"}, {"[}", "at 1"}, {"]", "at 0"}, {"[]]", "at 2"}, {"[1]]", "at 3"}, {"[1],", "at 3"}, {"[1][", "at 3"}, {"[1:2]", "at 2"}, {"[1;2]", "at 2"}, {"(1)", "at 0"}, {"[\"a\":1]", "at 4"}, {"[[]", "at 3"}, {"[[1", "at 3"}, {"[nul]", "at 4"}, {"[1, x]", "at 4"},
	})
}

func TestP18Dicts(t *testing.T) {
	wantDataRows(t, []dataRow{
		{"{}", "dict"}, {"{ \t\n\r}", "dict"}, {`{"a":1}`, `int="1" pair="a"[0] dict[1]`}, {` { "a" : 1 , "" : [ ] } `, `int="1" pair="a"[0] list pair[2] dict[1,3]`}, {`{"b":{"a":null},"a":"x"}`, `null pair="a"[0] dict[1] pair="b"[2] text="x" pair="a"[4] dict[3,5]`},
		{"{", "at 1"}, {"{ ", "at 2"}, {`{"a`, "at 3"}, {`{"a"`, "at 4"}, {`{"a" `, "at 5"}, {`{"a":`, "at 5"}, {`{"a": `, "at 6"}, {`{"a":1`, "at 6"}, {`{"a":1 `, "at 7"}, {`{"a":1,`, "at 7"}, {`{"a":1,}`, "at 7"}, {`{"a":1, }`, "at 8"}, {`{,}`, "at 1"}, {`{"a"}`, "at 4"}, {`{"a",}`, "at 4"}, {`{"a" 1}`, "at 5"}, {`{"a":}`, "at 5"}, {`{"a"::1}`, "at 5"}, {`{"a":1 "b":2}`, "at 7"}, {`{"a":1;"b":2}`, "at 6"}, {`{"a":1]`, "at 6"}, {`{]`, "at 1"}, {`}`, "at 0"}, {`{}}`, "at 2"},
		{"{1:2}", "at 1"}, {"{a:1}", "at 1"}, {"{null:1}", "at 1"}, {"{[]:1}", "at 1"}, {"{{}:1}", "at 1"}, {"{'a':1}", "at 1"}, {"{\"a\n\":1}", "at 3"}, {`{"\q":1}`, "at 3"}, {`{:1}`, "at 1"},
	})
}

// TestP18KeysAgain: the place is that of the second key's quote, as soon as the
// key has been read.
func TestP18KeysAgain(t *testing.T) {
	wantDataRows(t, []dataRow{
		{`{"a":1,"a":2}`, "at 7"}, {`{"a":1, "b":2, "a":3}`, "at 15"}, {`{"":1,"":2}`, "at 6"}, {`{"a":1,"\u0061":2}`, "at 7"}, {`{"é":1,"\u00e9":2}`, "at 8"}, {`{"\ud83d\ude00":1,"😀":2}`, "at 18"}, {`{"/":1,"\/":2}`, "at 7"},
		{`{"a":1,"a"`, "at 7"}, {`{"a":1,"a"x`, "at 7"}, {`{"a":1,"a`, "at 9"}, {`{"a":1,"a\q"`, "at 10"}, {`{"a":1,"a":x`, "at 7"}, {`{"a":1,"A":2,"a ":3}`, `int="1" pair="a"[0] int="2" pair="A"[2] int="3" pair="a "[4] dict[1,3,5]`},
		{`{"a":{"a":{"a":1}},"b":{"a":2}}`, `int="1" pair="a"[0] dict[1] pair="a"[2] dict[3] pair="a"[4] int="2" pair="a"[6] dict[7] pair="b"[8] dict[5,9]`}, {`{"a":{"b":1,"b":2},"a":3}`, "at 12"}, {`{"a":{"b":1},"b":2,"a":3}`, "at 19"}, {`[{"a":1},{"a":1,"a":1}]`, "at 16"}, {"{\"e\u0301\":1,\"\u00e9\":2}", `int="1" pair="é"[0] int="2" pair="é"[2] dict[1,3]`},
	})
}

func TestP18NoTexts(t *testing.T) {
	for _, s := range noTexts() {
		for _, data := range []string{s, `"` + s + `"`, "[1, x" + s} {
			if j, at := impl.JsonRead(data); at != 0 || len(j.Nodes) > 0 {
				t.Errorf("%s: %s, %d", shown(data), jsonTold(j), at)
			}
		}
	}
	for _, s := range []string{"[1]\xff", "\xff[1]", "[1]\xc3", "\"\xed\xa0\x80\"", "[1,x\xff"} {
		if j, at := impl.JsonRead(s); at != 0 || len(j.Nodes) > 0 {
			t.Errorf("%s: %s, %d", shown(s), jsonTold(j), at)
		}
	}
	for _, s := range edgeTexts() {
		wantData(t, s)
	}
	longest := `"` + strings.Repeat("a", impl.MaxText-2) + `"`
	if j, at := impl.JsonRead(longest); at != -1 || len(j.Nodes[0].Text) != impl.MaxText-2 {
		t.Error("the longest text", at)
	}
	if _, at := impl.JsonRead(longest + " "); at != 0 {
		t.Error("a text that is too long by a blank", at)
	}
	if _, at := impl.JsonRead(longest[:impl.MaxText-1] + "a"); at != impl.MaxText {
		t.Error("the longest text without its quote", at)
	}
	if _, at := impl.JsonRead(strings.Repeat(" ", impl.MaxText)); at != impl.MaxText {
		t.Error("blanks", at)
	}
}

// TestP18Deep has values with MaxJsonDeep nodes above them, and one more; a dict
// has its pair above a value too.
func TestP18Deep(t *testing.T) {
	lists := func(n int, inner string) string { return strings.Repeat("[", n) + inner + strings.Repeat("]", n) }
	dicts := func(n int, inner string) string {
		return strings.Repeat(`{"k":`, n) + inner + strings.Repeat("}", n)
	}
	rows := []dataRow{
		{lists(61, "1"), "at 61"}, {lists(61, "[]"), "at 61"}, {lists(61, `"a"`), "at 61"}, {lists(61, `"a`), "at 61"}, {lists(61, "{}"), "at 61"}, {lists(61, "x"), "at 61"}, {lists(61, " 1e400"), "at 62"}, {lists(61, "null"), "at 61"}, {strings.Repeat("[", 61), "at 61"}, {strings.Repeat("[", 62), "at 61"}, {strings.Repeat("[", 10000), "at 61"}, {strings.Repeat("[", 61) + "}", "at 61"},
		{lists(60, `{"a":1}`), "at 65"}, {lists(60, `{"a" : 1}`), "at 67"}, {lists(60, `{"a":}`), "at 65"}, {lists(60, `{"a"}`), "at 64"}, {strings.Repeat("[", 60) + `{"a`, "at 63"}, {lists(60, `{1:1}`), "at 61"}, {lists(59, `{"a":1}`), "at 64"}, {lists(59, `{"a": [`), "at 65"}, {lists(59, `{"a":1e400}`), "at 64"},
		{dicts(31, "1"), "at 155"}, {dicts(30, `[1]`), "at 151"}, {dicts(30, `{"a":1}`), "at 155"}, {strings.Repeat(`{"k":`, 3000), "at 155"}, {dicts(29, lists(3, "1")), "at 148"}, {strings.Repeat(`[{"k":`, 2000), "at 121"},
		{"[1, " + lists(61, ""), "at 64"}, {lists(61, "") + "]", "at 122"}, {"[" + lists(60, "") + "," + lists(61, "") + "]", "at 182"},
	}
	wantDataRows(t, rows)
	for _, s := range []string{lists(60, "1"), lists(61, ""), lists(60, "{}"), lists(61, " "), dicts(30, "1"), dicts(30, "[]"), dicts(30, "{}"), lists(58, `{"a":1}`), lists(58, `{"a":{}}`), dicts(29, lists(2, "1")), "[" + lists(60, "") + "," + lists(60, "") + "]"} {
		if _, at := impl.JsonRead(s); at != -1 {
			t.Errorf("%s: %d", s, at)
		}
		wantData(t, s)
	}
}

// TestP18ManyNodes has MaxJson nodes and one more, which is told when all of the
// text has been read.
func TestP18ManyNodes(t *testing.T) {
	ones := func(n int) string { return "[" + strings.Repeat("1,", n-1) + "1]" }
	for n, want := range map[int]int64{impl.MaxJson - 2: -1, impl.MaxJson - 1: -1, impl.MaxJson: 0, impl.MaxJson + 1: 0} {
		j, at := impl.JsonRead(ones(n))
		if at != want || at == -1 && len(j.Nodes) != n+1 || at == 0 && len(j.Nodes) > 0 {
			t.Error(n, "items", at, len(j.Nodes))
		}
	}
	long := ones(impl.MaxJson + 5)
	wantDataRows(t, []dataRow{{long + "x", fmt.Sprint("at ", len(long))}, {long[:len(long)-1], fmt.Sprint("at ", len(long)-1)}, {long[:len(long)-1] + ",1e400]", fmt.Sprint("at ", len(long))}, {"[" + long[1:] + " ", "at 0"}, {strings.Repeat("[],", 10), "at 2"}})
	pairs := []string{}
	for i := range 1250 {
		pairs = append(pairs, fmt.Sprintf(`"%d":[]`, i))
	}
	for n, want := range map[int]int64{1249: -1, 1250: -1} {
		if j, at := impl.JsonRead("{" + strings.Join(pairs[:n], ",") + "}"); at != want || len(j.Nodes) != 2*n+1 {
			t.Error(n, "pairs", at, len(j.Nodes))
		}
	}
}

// dataTexts are texts that are read, with every form in them.
func dataTexts() []string {
	return []string{
		"null", "-12", "0", "-0.5e+10", "1E5", "[true,false]", `"a\n\u00e9é"`, `"\ud83d\ude00"`, `"\uD800\uDFFFx"`, `{"a":1,"b":2}`, `{"a":1,"\u0062":[]}`, ` [ 1 , "x" , { } ] `, "\t{\r\n\"k\" : [ null,{\"k\":-1.5e-3} ]\n}", `[[[]],[{}]]`, `{"":{"":""}}`, `["\"\\\/\b\f\n\r\t"]`, `{"a":1e308,"b":-1e308}`,
	}
}

func TestP18EveryBeginning(t *testing.T) {
	for _, s := range dataTexts() {
		for n := range len(s) + 1 {
			wantData(t, s[:n])
			wantData(t, s[:n]+" ")
			wantData(t, s[n:])
		}
	}
}

// oddBytes are those that mean something in data, and some that mean nothing.
func oddBytes() []byte {
	return []byte("\"\\/[]{}:,-+.019eEnultrfasbdDcG8 \t\n\r\x00\x1f\x7f\x80\xc3\xffx'")
}

func TestP18EveryByteTurned(t *testing.T) {
	texts := dataTexts()
	inPieces(t, len(texts), func(t *testing.T, k int) {
		s := texts[k]
		for i := range len(s) {
			wantData(t, s[:i]+s[i+1:])
			for _, c := range oddBytes() {
				wantData(t, s[:i]+string([]byte{c})+s[i+1:])
				wantData(t, s[:i]+string([]byte{c})+s[i:])
			}
		}
		for _, c := range oddBytes() {
			wantData(t, s+string([]byte{c}))
		}
	})
}

// TestP18AllBytes puts every byte at each kind of place.
func TestP18AllBytes(t *testing.T) {
	for _, frame := range []string{"*", "[*]", "[1*]", "[1*2]", "{*}", `{"a"*}`, `{"a"*1}`, `{"a":*}`, `{"a":1*}`, `"*"`, `"\*"`, `"\u*000"`, `"\u000*"`, `"\ud*00\udc00"`, `"\ud800\ud*00"`, "-*", "1*", "1*1", "1.*", "1e*", "1e*5", "0*", "n*ll", "tru*", "*1", "1*", `*""`} {
		for c := range 256 {
			wantData(t, strings.Replace(frame, "*", string([]byte{byte(c)}), 1))
			wantData(t, strings.Replace(frame, "*", string(rune(c)), 1))
		}
	}
}

func TestP18Blanks(t *testing.T) {
	tokens := []string{"[", "{", `"a b"`, ":", "-1.5e5", ",", `"c"`, ":", "[", "]", "}", ",", "true", ",", "{", "}", "]"}
	want, at := impl.JsonRead(strings.Join(tokens, ""))
	if at != -1 {
		t.Fatal(at)
	}
	for i := range len(tokens) + 1 {
		for _, blank := range []string{" ", "\t", "\n", "\r", " \t\n\r", "    "} {
			s := strings.Join(tokens[:i], "") + blank + strings.Join(tokens[i:], "")
			if got, at := impl.JsonRead(s); at != -1 || !sameJson(got, want) {
				t.Errorf("%q: %d", s, at)
			}
		}
		for _, no := range []string{"\v", "\f", "\x00", "\u0085", "\u00a0", "\u2028", "/**/"} {
			begin := strings.Join(tokens[:i], "")
			if _, at := impl.JsonRead(begin + no + strings.Join(tokens[i:], "")); at != int64(len(begin)) {
				t.Errorf("%q behind %s: %d", no, begin, at)
			}
		}
	}
}

// TestP18DrawnTexts puts pieces of data behind one another.
func TestP18DrawnTexts(t *testing.T) {
	pieces := []string{"[", "]", "{", "}", ",", ":", `"a"`, `"b"`, `"`, `\`, `\u0061`, `\ud800`, `\udc00`, "0", "1", "-", ".", "e", "E5", "e400", "null", "true", "fals", " ", "\n", "\t", "é", "\x01", `"a":`, `"b":1`, "[]", "{}", ",1", "[1,", `{"a":`}
	inPieces(t, 30000, func(t *testing.T, i int) {
		r := rand.New(rand.NewSource(int64(i)))
		s := ""
		for range 1 + r.Intn(9) {
			s += pieces[r.Intn(len(pieces))]
		}
		wantData(t, s)
	})
}

// TestP18ChangedTexts changes data that were written, in one place or two.
func TestP18ChangedTexts(t *testing.T) {
	inPieces(t, 6000, func(t *testing.T, i int) {
		r := rand.New(rand.NewSource(int64(i)))
		text, _ := impl.JsonText(drawnDatum(r, 4).json(), r.Int63n(3))
		bytes := []byte(text)
		for range 1 + r.Intn(2) {
			at := r.Intn(len(bytes))
			switch c := oddBytes()[r.Intn(len(oddBytes()))]; r.Intn(3) {
			case 0:
				bytes[at] = c
			case 1:
				bytes = slices.Insert(bytes, at, c)
			default:
				bytes = append(slices.Delete(bytes, at, at+1), ' ')
			}
		}
		wantData(t, string(bytes))
	})
}
