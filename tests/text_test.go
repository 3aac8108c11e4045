package tests

import (
	"math"
	"slices"
	"strings"
	"testing"

	"loop.example/g00009/impl"
)

// checkTextOk holds TextOk and TextLen against the document's words.
func checkTextOk(t *testing.T, s string) {
	t.Helper()
	points, ok := decoded(s)
	ok = ok && len(s) <= impl.MaxText
	want := int64(-1)
	if ok {
		want = int64(len(points))
	}
	if got := impl.TextOk(s); got != ok {
		t.Errorf("%.30q is a text: %v", s, got)
	}
	if got := impl.TextLen(s); got != want {
		t.Errorf("%.30q has the length %d; wanted %d", s, got, want)
	}
}

func TestP3TextsAreValidBytes(t *testing.T) {
	for _, s := range edgeTexts() {
		checkTextOk(t, s)
		if !impl.TextOk(s) {
			t.Errorf("%.30q is no text", s)
		}
	}
	for _, s := range noTexts() {
		checkTextOk(t, s)
		if impl.TextOk(s) || impl.TextLen(s) != -1 {
			t.Errorf("%.30q is a text", s)
		}
	}
	for i := range 1 << 16 {
		checkTextOk(t, string([]byte{byte(i), byte(i >> 8)}))
	}
	// Bytes next to where a form begins or ends.
	edges := []byte{0, 0x7f, 0x80, 0x8f, 0x90, 0x9f, 0xa0, 0xbf, 0xc0, 0xc1, 0xc2, 0xdf, 0xe0, 0xe1, 0xec, 0xed, 0xee, 0xef, 0xf0, 0xf1, 0xf3, 0xf4, 0xf5, 0xf8, 0xff}
	for _, a := range edges {
		for _, b := range edges {
			for _, c := range edges {
				checkTextOk(t, string([]byte{a, b, c}))
				for _, d := range edges {
					checkTextOk(t, string([]byte{a, b, c, d}))
				}
			}
		}
	}
}

func TestP3LengthByHand(t *testing.T) {
	for s, want := range map[string]int64{"": 0, "a": 1, "aé日😀": 4, badMark: 1, lastPoint: 1, "\x00\x00": 2, "\xff": -1, "e\u0301": 2, strings.Repeat("a", impl.MaxText): impl.MaxText, strings.Repeat("a", impl.MaxText+1): -1, strings.Repeat(fourBytes, impl.MaxText/4): impl.MaxText / 4} {
		if n := impl.TextLen(s); n != want {
			t.Errorf("the length of %s is %d; wanted %d", shown(s), n, want)
		}
	}
}

func findRule(s string, t string, from int64) int64 {
	text, _ := decoded(s)
	part, _ := decoded(t)
	for i := range len(text) + 1 {
		if int64(i) >= from && standsAt(text, part, i) {
			return int64(i)
		}
	}
	return -1
}

func TestP3Find(t *testing.T) {
	parts := allTexts("aé", 3)
	for _, s := range allTexts("aé", 5) {
		n := impl.TextLen(s)
		for _, part := range parts {
			for _, from := range []int64{math.MinInt64, -1, 0, 1, 2, n - 1, n, n + 1, math.MaxInt64} {
				if got, want := impl.TextFind(s, part, from), findRule(s, part, from); got != want {
					t.Errorf("%q in %q from %d: %d; wanted %d", part, s, from, got, want)
				}
			}
		}
	}
	for _, s := range someTexts(72, 400, 30, "ab日😀\ufffd") {
		for _, part := range someTexts(73, 20, 3, "ab日😀\ufffd") {
			for from := int64(-1); from < 32; from += 3 {
				if got, want := impl.TextFind(s, part, from), findRule(s, part, from); got != want {
					t.Errorf("%q in %q from %d: %d; wanted %d", part, s, from, got, want)
				}
			}
		}
	}
}

func TestP3FindByHand(t *testing.T) {
	long := strings.Repeat(fourBytes, impl.MaxText/4-1) + "日a"
	for _, c := range []struct {
		s, part string
		from    int64
		want    int64
	}{
		{"abcabc", "c", 0, 2}, {"abcabc", "c", 2, 2}, {"abcabc", "c", 3, 5}, {"abcabc", "d", 0, -1}, {"日é日é", "é", 2, 3}, {"日é日é", "日", 1, 2},
		{"abc", "", -5, 0}, {"abc", "", 0, 0}, {"abc", "", 2, 2}, {"abc", "", 3, 3}, {"abc", "", 4, -1}, {"", "", 0, 0}, {"", "", -1, 0}, {"", "", 1, -1}, {"", "a", 0, -1},
		{"日é", "", 2, 2}, {"日é", "", 3, -1}, {"日é", "é", 1, 1}, {"日é", "é", 2, -1}, {"abc", "abc", 0, 0}, {"abc", "abcd", 0, -1}, {"aaa", "aa", 1, 1}, {"aaa", "aa", 2, -1},
		{"abc", "a", math.MinInt64, 0}, {"abc", "a", math.MaxInt64, -1}, {"abc", "", math.MaxInt64, -1},
		{long, "a", 0, impl.MaxText / 4}, {long, "", impl.MaxText/4 + 1, impl.MaxText/4 + 1}, {long, long, 0, 0}, {long, fourBytes, impl.MaxText / 4, -1},
	} {
		if got := impl.TextFind(c.s, c.part, c.from); got != c.want {
			t.Errorf("%q in %s from %d: %d; wanted %d", c.part, shown(c.s), c.from, got, c.want)
		}
	}
	for _, bad := range noTexts() {
		if impl.TextFind(bad, "", 0) != -1 || impl.TextFind(bad, "a", 0) != -1 || impl.TextFind("a", bad, 0) != -1 || impl.TextFind(bad, bad, 0) != -1 {
			t.Errorf("found with %q", shown(bad))
		}
	}
}

func splitRule(s string, sep string) []string {
	text, _ := decoded(s)
	part, _ := decoded(sep)
	var out []string
	start := 0
	for i := 0; i <= len(text); {
		if standsAt(text, part, i) {
			out = append(out, string(text[start:i]))
			i += len(part)
			start = i
			continue
		}
		i++
	}
	return append(out, string(text[start:]))
}

func checkSplit(t *testing.T, s string, sep string) {
	t.Helper()
	pieces, code := impl.TextSplit(s, sep)
	if want := splitRule(s, sep); code != impl.ROk || !slices.Equal(pieces, want) {
		t.Errorf("%q cut at %q: %q, code %d; wanted %q", s, sep, pieces, code, want)
	}
	for _, piece := range pieces {
		if strings.Contains(piece, sep) {
			t.Errorf("%q cut at %q has the piece %q", s, sep, piece)
		}
	}
	back, code := impl.TextJoin(sep, pieces)
	wantText(t, back, code, s, "split and joined by", sep)
}

func TestP3SplitAndJoined(t *testing.T) {
	for _, s := range allTexts("aé", 6) {
		for _, sep := range allTexts("aé", 3)[1:] {
			checkSplit(t, s, sep)
		}
	}
	for _, s := range append(someTexts(74, 300, 40, ",ab日😀"), edgeTexts()...) {
		for _, sep := range []string{",", "a", ",,", "日", "😀", badMark, lastPoint, "a,", "\n", strings.Repeat("a", impl.MaxText)} {
			checkSplit(t, s, sep)
		}
	}
}

func TestP3SplitByHand(t *testing.T) {
	for _, c := range []struct {
		s, sep string
		want   []string
	}{
		{"a,b", ",", []string{"a", "b"}}, {",a,", ",", []string{"", "a", ""}}, {",,", ",", []string{"", "", ""}}, {"", ",", []string{""}}, {",", ",", []string{"", ""}}, {"abc", ",", []string{"abc"}},
		{"aaa", "aa", []string{"", "a"}}, {"aaaa", "aa", []string{"", "", ""}}, {"ababa", "aba", []string{"", "ba"}}, {"日é日", "日", []string{"", "é", ""}}, {"a b", "a b", []string{"", ""}}, {"ab", "abc", []string{"ab"}},
	} {
		if got, code := impl.TextSplit(c.s, c.sep); code != impl.ROk || !slices.Equal(got, c.want) {
			t.Errorf("%q cut at %q: %q, code %d; wanted %q", c.s, c.sep, got, code, c.want)
		}
	}
	most := strings.Repeat(",", impl.MaxText)
	if got, code := impl.TextSplit(most, ","); code != impl.ROk || len(got) != impl.MaxText+1 || strings.Join(got, "") != "" {
		t.Error("the most pieces:", len(got), code)
	}
}

func TestP3SplitRefused(t *testing.T) {
	for _, s := range append(edgeTexts(), noTexts()...) {
		if got, code := impl.TextSplit(s, ""); len(got) > 0 || code != impl.RArgs {
			t.Errorf("%s cut at nothing: %d pieces, code %d", shown(s), len(got), code)
		}
	}
	for _, bad := range noTexts() {
		for _, pair := range [][2]string{{bad, "a"}, {"a", bad}, {"", bad}, {bad, bad}} {
			if got, code := impl.TextSplit(pair[0], pair[1]); len(got) > 0 || code != impl.RArgs {
				t.Errorf("%s cut at %s: %d pieces, code %d", shown(pair[0]), shown(pair[1]), len(got), code)
			}
		}
	}
}

func wordsRule(s string) []string {
	var out []string
	word := ""
	for _, r := range s + " " {
		if r != ' ' && r != '\t' && r != '\n' && r != '\r' {
			word += string(r)
			continue
		}
		if word != "" {
			out = append(out, word)
		}
		word = ""
	}
	return out
}

func TestP3Words(t *testing.T) {
	for _, s := range append(allTexts(" aé", 6), someTexts(75, 500, 30, " \t\n\rab日😀\v\f\u00a0\u0085\u2028")...) {
		if got, want := impl.TextWords(s), wordsRule(s); !slices.Equal(got, want) {
			t.Errorf("words of %q: %q; wanted %q", s, got, want)
		}
	}
	for _, c := range []struct {
		s    string
		want []string
	}{
		{"", nil}, {" ", nil}, {" \t\n\r", nil}, {"a", []string{"a"}}, {" a  b ", []string{"a", "b"}}, {"a\tb\nc\rd", []string{"a", "b", "c", "d"}}, {"日 é", []string{"日", "é"}},
		{"a\vb\fc", []string{"a\vb\fc"}}, {"a\u00a0b\u0085c\u2003d\u3000e", []string{"a\u00a0b\u0085c\u2003d\u3000e"}}, {"\x00 \x1f", []string{"\x00", "\x1f"}},
	} {
		if got := impl.TextWords(c.s); !slices.Equal(got, c.want) {
			t.Errorf("words of %q: %q; wanted %q", c.s, got, c.want)
		}
	}
	if got := impl.TextWords(strings.Repeat(" a", impl.MaxText/2)); len(got) != impl.MaxText/2 {
		t.Error("the most words:", len(got))
	}
	for _, bad := range noTexts() {
		if got := impl.TextWords(bad); len(got) > 0 {
			t.Errorf("words of %s: %d", shown(bad), len(got))
		}
	}
}

func TestP3Join(t *testing.T) {
	for _, c := range []struct {
		sep  string
		list []string
		want string
	}{
		{",", nil, ""}, {",", []string{}, ""}, {",", []string{""}, ""}, {",", []string{"a"}, "a"}, {",", []string{"", ""}, ","}, {"", []string{"a", "b"}, "ab"}, {"日", []string{"a", "é", "😀"}, "a日é日😀"}, {", ", []string{"a", "b", "c"}, "a, b, c"},
		{"", make([]string, 100000), ""}, {",", make([]string, impl.MaxText+1), strings.Repeat(",", impl.MaxText)}, {strings.Repeat("a", impl.MaxText), []string{""}, ""}, {strings.Repeat("a", impl.MaxText), []string{"", ""}, strings.Repeat("a", impl.MaxText)},
	} {
		got, code := impl.TextJoin(c.sep, c.list)
		wantText(t, got, code, c.want, "joined by", shown(c.sep), len(c.list))
	}
}

// Results of MaxText bytes, and of one more.
func TestP3JoinLimits(t *testing.T) {
	half := strings.Repeat("a", impl.MaxText/2)
	for _, c := range []struct {
		sep  string
		list []string
		code int64
	}{
		{"", []string{half, half}, impl.ROk}, {"", []string{half, half, "a"}, impl.RLarge}, {"b", []string{half, half}, impl.RLarge}, {"b", []string{half, half[1:]}, impl.ROk}, {"é", []string{half, half[1:]}, impl.RLarge}, {"é", []string{half, half[2:]}, impl.ROk},
		{"", []string{half, twoBytes, half[1:]}, impl.RLarge}, {",", make([]string, impl.MaxText+2), impl.RLarge}, {half, make([]string, 3), impl.ROk}, {half, make([]string, 4), impl.RLarge}, {half + "a", make([]string, 3), impl.RLarge}, {half + half, make([]string, 100000), impl.RLarge},
	} {
		got, code := impl.TextJoin(c.sep, c.list)
		if c.code != impl.ROk {
			wantNoText(t, got, code, c.code, "joined by", shown(c.sep), len(c.list))
		} else {
			wantText(t, got, code, strings.Join(c.list, c.sep), "joined by", shown(c.sep), len(c.list))
		}
	}
}

func TestP3JoinRefused(t *testing.T) {
	most := strings.Repeat("a", impl.MaxText)
	for _, bad := range noTexts() {
		for _, list := range [][]string{nil, {"a"}, {"a", "b"}, {most, most}} {
			got, code := impl.TextJoin(bad, list)
			wantNoText(t, got, code, impl.RArgs, "joined by", bad)
		}
		for _, list := range [][]string{{bad}, {"a", bad}, {bad, "a"}, {most, most, bad}, {bad, most, most}} {
			got, code := impl.TextJoin(",", list)
			wantNoText(t, got, code, impl.RArgs, "joined with", bad)
		}
	}
	// Parts of one code point are no texts, though they would make one.
	got, code := impl.TextJoin("", []string{"\xc3", "\xa9"})
	wantNoText(t, got, code, impl.RArgs, "joined out of bytes")
}

func TestP3Replace(t *testing.T) {
	for _, s := range allTexts("aé", 5) {
		for _, old := range allTexts("aé", 3)[1:] {
			for _, by := range []string{"", "a", "é", "aa", old, old + old, "日😀"} {
				got, code := impl.TextReplace(s, old, by)
				wantText(t, got, code, strings.Join(splitRule(s, old), by), "in", s, old, "replaced by", by)
			}
		}
	}
	for _, c := range [][4]string{{"aaa", "aa", "b", "ba"}, {"aaa", "a", "aa", "aaaaaa"}, {"abab", "ab", "", ""}, {"abc", "d", "e", "abc"}, {"", "a", "b", ""}, {"日é日", "日", "a", "aéa"}, {"ababa", "aba", "x", "xba"}, {"a.a", ".", "$1", "a$1a"}} {
		got, code := impl.TextReplace(c[0], c[1], c[2])
		wantText(t, got, code, c[3], "in", c[0], c[1], "replaced by", c[2])
	}
}

// Results of MaxText bytes, and of one more.
func TestP3ReplaceLimits(t *testing.T) {
	half, most := strings.Repeat("a", impl.MaxText/2), strings.Repeat("a", impl.MaxText)
	for _, c := range []struct {
		s, old, by string
		code       int64
	}{
		{half, "a", "bb", impl.ROk}, {half + "a", "a", "bb", impl.RLarge}, {half + "c", "a", "bb", impl.RLarge}, {half[1:] + "cc", "a", "bb", impl.ROk}, {half[1:] + "ccc", "a", "bb", impl.RLarge},
		{most, "a", "b", impl.ROk}, {most, "a", "é", impl.RLarge}, {most, most, "é", impl.ROk}, {most, "b", most, impl.ROk}, {most, most, most, impl.ROk}, {most, "aa", "é", impl.ROk}, {most, "aa", "日", impl.RLarge},
		{"b", "b", most, impl.ROk}, {"bc", "b", most, impl.RLarge}, {"bc", "b", most[1:], impl.ROk}, {"bb", "b", half, impl.ROk}, {"bb", "b", half + "a", impl.RLarge}, {most, "a", most, impl.RLarge}, {most, "a", "", impl.ROk},
	} {
		got, code := impl.TextReplace(c.s, c.old, c.by)
		if c.code != impl.ROk {
			wantNoText(t, got, code, c.code, "replaced", len(c.s), len(c.old), len(c.by))
		} else {
			wantText(t, got, code, strings.Join(splitRule(c.s, c.old), c.by), "replaced", len(c.s), len(c.old), len(c.by))
		}
	}
}

func TestP3ReplaceRefused(t *testing.T) {
	most := strings.Repeat("a", impl.MaxText)
	for _, s := range append(edgeTexts(), noTexts()...) {
		got, code := impl.TextReplace(s, "", "b")
		wantNoText(t, got, code, impl.RArgs, "nothing replaced in", s)
	}
	for _, bad := range noTexts() {
		for _, c := range [][3]string{{bad, "a", "b"}, {"a", bad, "b"}, {"a", "a", bad}, {"", "a", bad}, {"", bad, ""}, {most, "a", bad}, {bad, "a", most}} {
			got, code := impl.TextReplace(c[0], c[1], c[2])
			wantNoText(t, got, code, impl.RArgs, "replaced with", bad)
		}
	}
}

func TestP3Times(t *testing.T) {
	for _, s := range []string{"", "a", "ab", twoBytes, "a日", fourBytes} {
		want := ""
		for n := range int64(20) {
			got, code := impl.TextTimes(s, n)
			wantText(t, got, code, want, s, n, "times")
			want += s
		}
	}
	for _, s := range edgeTexts() {
		for _, n := range []int64{math.MinInt64, -farAbove, -2, -1, 0} {
			got, code := impl.TextTimes(s, n)
			wantText(t, got, code, "", shown(s), n, "times")
		}
		got, code := impl.TextTimes(s, 1)
		wantText(t, got, code, s, shown(s), "once")
	}
	for _, n := range []int64{1, 2, impl.MaxText, impl.MaxText + 1, farAbove, math.MaxInt64} {
		got, code := impl.TextTimes("", n)
		wantText(t, got, code, "", "nothing", n, "times")
	}
}

// Results of MaxText bytes, and of more.
func TestP3TimesLimits(t *testing.T) {
	for s, most := range map[string]int64{"a": impl.MaxText, "ab": impl.MaxText / 2, twoBytes: impl.MaxText / 2, threeBytes: impl.MaxText / 3, fourBytes: impl.MaxText / 4, strings.Repeat("a", impl.MaxText/2): 2, strings.Repeat("a", impl.MaxText/2+1): 1, strings.Repeat("a", impl.MaxText): 1} {
		got, code := impl.TextTimes(s, most)
		wantText(t, got, code, strings.Repeat(s, int(most)), shown(s), most, "times")
		for _, n := range []int64{most + 1, most + 2, farAbove, 1 << 50, 1 << 51, 1 << 60, 1 << 62, 1<<62 + 1, math.MaxInt64 - 1, math.MaxInt64} {
			got, code := impl.TextTimes(s, n)
			wantNoText(t, got, code, impl.RLarge, shown(s), n, "times")
		}
	}
	for _, bad := range noTexts() {
		for _, n := range []int64{math.MinInt64, -1, 0, 1, 2, impl.MaxText + 1, math.MaxInt64} {
			got, code := impl.TextTimes(bad, n)
			wantNoText(t, got, code, impl.RArgs, bad, n, "times")
		}
	}
}

func stripRule(s string, set string, left bool, right bool) string {
	text, _ := decoded(s)
	points, _ := decoded(set)
	for left && len(text) > 0 && slices.Contains(points, text[0]) {
		text = text[1:]
	}
	for right && len(text) > 0 && slices.Contains(points, text[len(text)-1]) {
		text = text[:len(text)-1]
	}
	return string(text)
}

func checkStrip(t *testing.T, s string, set string) {
	t.Helper()
	for ends := int64(1); ends <= 3; ends++ {
		if got, want := impl.TextStrip(s, set, ends), stripRule(s, set, ends != 2, ends != 1); got != want {
			t.Errorf("%s without %s at %d: %s; wanted %s", shown(s), shown(set), ends, shown(got), shown(want))
		}
	}
}

func TestP3Strip(t *testing.T) {
	alphabet := "abé日😀\ufffd\U0010ffff"
	for _, s := range append(someTexts(76, 400, 8, alphabet), edgeTexts()...) {
		for _, set := range append(someTexts(77, 30, 4, alphabet), "", "a-z", "è", "\u65e6", "\x00") {
			checkStrip(t, s, set)
		}
	}
	for _, c := range []struct {
		s, set string
		ends   int64
		want   string
	}{
		{"xxaxbx", "x", 1, "axbx"}, {"xxaxbx", "x", 2, "xxaxb"}, {"xxaxbx", "x", 3, "axb"}, {"xyx", "yx", 3, ""}, {"abc", "", 3, "abc"}, {"", "a", 3, ""}, {"日é日", "日", 1, "é日"}, {"éaé", "è", 3, "éaé"}, {"..a..", ".", 2, "..a"}, {"a" + badMark, badMark, 2, "a"},
	} {
		if got := impl.TextStrip(c.s, c.set, c.ends); got != c.want {
			t.Errorf("%q without %q at %d: %q; wanted %q", c.s, c.set, c.ends, got, c.want)
		}
	}
}

func TestP3StripRefused(t *testing.T) {
	for _, ends := range []int64{math.MinInt64, -3, -1, 0, 4, 5, 7, math.MaxInt64} {
		for _, s := range edgeTexts() {
			if got := impl.TextStrip(s, "x", ends); got != "" {
				t.Errorf("%s stripped at %d: %s", shown(s), ends, shown(got))
			}
		}
	}
	for _, bad := range noTexts() {
		for ends := int64(0); ends <= 4; ends++ {
			for _, pair := range [][2]string{{bad, "x"}, {bad, ""}, {"a", bad}, {bad, bad}} {
				if got := impl.TextStrip(pair[0], pair[1], ends); got != "" {
					t.Errorf("%s stripped of %s at %d: %s", shown(pair[0]), shown(pair[1]), ends, shown(got))
				}
			}
		}
	}
}

// Each code point there is: only the 26 letters change.
func TestP3Case(t *testing.T) {
	const letters = 26
	for start := rune(0); start <= 0x10ffff; start += 4096 {
		var text, upper, lower []rune
		for r := start; r < start+4096; r++ {
			if r >= 0xd800 && r < 0xe000 {
				continue
			}
			text, upper, lower = append(text, r), append(upper, r), append(lower, r)
		}
		if start == 0 {
			for i := range rune(letters) {
				upper['a'+i], lower['A'+i] = 'A'+i, 'a'+i
			}
		}
		if got := impl.TextCase(string(text), 1); got != string(upper) {
			t.Errorf("upper case from %#x: %s", start, shown(got))
		}
		if got := impl.TextCase(string(text), 2); got != string(lower) {
			t.Errorf("lower case from %#x: %s", start, shown(got))
		}
	}
	for _, c := range []struct{ s, upper, lower string }{{"", "", ""}, {"aBcZ", "ABCZ", "abcz"}, {"@[`{az", "@[`{AZ", "@[`{az"}, {"éÉßµİ", "éÉßµİ", "éÉßµİ"}, {"a" + badMark, "A" + badMark, "a" + badMark}} {
		if up, low := impl.TextCase(c.s, 1), impl.TextCase(c.s, 2); up != c.upper || low != c.lower {
			t.Errorf("%q is %q and %q", c.s, up, low)
		}
	}
	most := strings.Repeat("aZ", impl.MaxText/2)
	if impl.TextCase(most, 1) != strings.Repeat("AZ", impl.MaxText/2) || impl.TextCase(most, 2) != strings.Repeat("az", impl.MaxText/2) {
		t.Error("the longest text in another case")
	}
}

func TestP3CaseRefused(t *testing.T) {
	for _, how := range []int64{math.MinInt64, -1, 0, 3, 4, math.MaxInt64} {
		if got := impl.TextCase("aB", how); got != "" {
			t.Errorf("case %d: %s", how, got)
		}
	}
	for _, bad := range noTexts() {
		for how := int64(0); how <= 3; how++ {
			if got := impl.TextCase(bad, how); got != "" {
				t.Errorf("case %d of %s: %s", how, shown(bad), shown(got))
			}
		}
	}
}
