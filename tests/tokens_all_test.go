package tests

import (
	"math/rand"
	"slices"
	"strings"
	"testing"

	"loop.example/g00009/impl"
)

// alphabets are few signs each, so that all short texts of them can be tried.
func alphabets() []string {
	return []string{" \t\n\\#a(", "\n a)]([", "'\"\\\nr", "'{}f\n\\a", "01_.ex", "0e+5.a", "*/<=>!:", "# '\n\\a", ".1ra'_"}
}

// tokenWords are what longer texts are mixed of: tokens, what parts them, and
// a few faults.
func tokenWords() []string {
	return []string{
		" ", "  ", "\n", "\n  ", "\n    ", "\n ", "\\\n", "# a 'note\n", "\t",
		"if", "a", "x9", "_", "0", "0x_f", "1_0", "1.5", ".5", "1e5", "1e999",
		"'a'", `"b\n"`, "'''c\n'''", `r"\"`, "f'{a}'", "f'}'", "'",
		"(", ")", "[", "]", "{", "}", "**=", "<", "=", ".", ":", "$", "!", twoBytes, "\\",
	}
}

func TestP4TokensOfAllShortTexts(t *testing.T) {
	for _, alphabet := range alphabets() {
		for _, src := range allTexts(alphabet, 5) {
			wantRule(t, src)
		}
	}
}

func TestP4TokensOfMixedTexts(t *testing.T) {
	for seed := range 30000 {
		wantRule(t, mixed(int64(seed), tokenWords(), seed%13))
	}
}

// notes are lines that are nothing, each with its newline.
func notes() []string {
	return []string{"\n", " \n", "      \n", "\t\n", " \t \n", "#\n", "# note\n", "   # a 'note' (\n", "\t#\\\n", "#\\\n", "# '''\n", "\\\n\n", "  \\\n # é\n"}
}

// withNotes puts notes between the lines of a text and behind it. It answers
// how many lines further down each line of the text is then, too.
func withNotes(r *rand.Rand, src string) (string, map[int64]int64) {
	var out strings.Builder
	moves := map[int64]int64{}
	move := int64(0)
	lines, _ := linesRule(src)
	for _, line := range lines {
		for range r.Intn(3) {
			note := notes()[r.Intn(len(notes()))]
			out.WriteString(note)
			move += int64(strings.Count(note, "\n"))
		}
		for _, p := range line {
			moves[p.line] = move
			if p.kind == ruleNewline && r.Intn(2) == 0 {
				out.WriteString("  # 'behind' it (")
			}
			out.WriteString(p.raw)
		}
	}
	return out.String() + "# the last\n" + notes()[r.Intn(len(notes()))], moves
}

func TestP4TokensDoNotHangOnNotes(t *testing.T) {
	r := rand.New(rand.NewSource(42))
	list := programs()
	for _, alphabet := range alphabets() {
		list = append(list, allTexts(alphabet, 4)...)
	}
	for seed := range 20000 {
		list = append(list, mixed(int64(seed), tokenWords(), 2+seed%7))
	}
	tried := 0
	for _, src := range list {
		want, fault := impl.Tokens(src)
		if fault.Code != 0 {
			continue
		}
		tried++
		noted, moves := withNotes(r, src)
		if len(want) > 1 {
			for i := range want {
				want[i].Line += moves[want[i].Line]
			}
		}
		if toks, fault := impl.Tokens(noted); fault.Code != 0 || !slices.Equal(toks, want) {
			t.Errorf("%q with notes, %q: %v %s; wanted %s", src, noted, fault, told(toks), told(want))
		}
	}
	if tried < 10000 {
		t.Error("too few texts without a fault:", tried)
	}
}

func TestP4NotesAreNothing(t *testing.T) {
	for _, first := range notes() {
		wantToks(t, first, "1:end")
		for _, second := range notes() {
			wantToks(t, first+second, "1:end")
			wantKinds(t, first+"a"+second, "name(a)")
			wantKinds(t, "(\n"+first+"a,"+second+second+"b"+first+")", "op(() name(a) op(,) name(b) op())")
		}
	}
	for _, last := range []string{" ", "\t", "#", " # note", "#\\", "# é", "\\\n", " \\\n ", "\\\n#", "\n"} {
		wantToks(t, last, "1:end")
		wantToks(t, "a\n"+last, "1:name(a) 1:line 1:end")
		wantToks(t, "a\n b\n"+last, "1:name(a) 1:line 2:indent 2:name(b) 2:line 2:dedent 2:end")
	}
	wantToks(t, strings.Repeat("# note\n", impl.MaxText/7), "1:end")
	wantToks(t, strings.Repeat("\n", impl.MaxText), "1:end")
	wantToks(t, strings.Repeat("\n", impl.MaxText-1)+"a", "16384:name(a) 16384:line 16384:end")
}

// programs are whole texts as they are written.
func programs() []string {
	return []string{
		"def f(a, *b, c=1, **d):\n    if a:\n        return [x for x in b]\n    else:\n        pass\n    return {'k': c, **d}\n\nprint(f(1, 2, c=0x_ff))\n",
		"class A(B):\n  def g(self):\n    yield self.x\n\n  @h\n  def i(self): pass\nfor k in range(3):\n  try:\n    k += 1\n  except E as e:\n    raise X from e\n  finally: k //= 2",
		"s = '''one\n  # two\nthree''' + \\\n  f\"{a!r:>3} b\"\nt = (s,\n# in it\n   1.5e3,\n)\nwhile s is not None and t[0:2] != s: s **= 2; break\n",
		"match a:\n    case [1, *b] | {'k': b}:\n        lambda x: x @ 3\n    case _ if (n := len(a)) >= 2:\n        del a[n]\n",
		" a\n  b\n c\n",
	}
}

func TestP4ProgramsByTheRules(t *testing.T) {
	for _, src := range programs() {
		if _, fault := impl.Tokens(src); fault.Code != 0 {
			t.Errorf("%q: %v", src, fault)
		}
		wantRule(t, src)
		// With a byte taken out or put in there are faults of every kind.
		for i := range src {
			wantRule(t, src[:i]+src[i+1:])
			wantRule(t, src[:i])
			for _, sign := range []string{" ", "\n", "\t", "'", "(", "]", "\\", "1", "$", "é"} {
				wantRule(t, src[:i]+sign+src[i:])
			}
		}
	}
}
