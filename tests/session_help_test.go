package tests

import (
	"fmt"
	"math/rand"
	"regexp"
	"slices"
	"strings"
	"testing"
	"unicode/utf8"

	"loop.example/g00009/impl"
)

// sessionRow is a script with what it says.
type sessionRow struct{ script, want string }

func wantSessions(t *testing.T, rows []sessionRow) {
	t.Helper()
	for _, row := range rows {
		wantSession(t, row.script, row.want)
	}
}

func wantSession(t *testing.T, script string, want string) {
	t.Helper()
	if got := impl.Session(script); got != want {
		t.Errorf("%.400q\n says   %.400q\n wanted %.400q", script, got, want)
	}
	wantSessionRule(t, script)
}

func wantSessionRule(t *testing.T, script string) {
	t.Helper()
	if got, want := impl.Session(script), sessionByRule(script); got != want {
		t.Fatalf("%q\n says        %q\n by the rule %q", script, got, want)
	}
}

// commandForms are how the commands are written; what the brackets hold is the word.
var commandForms = map[string]*regexp.Regexp{
	"module": regexp.MustCompile(`^\*module +([A-Za-z_][A-Za-z_0-9]{0,59}) *$`),
	"show":   regexp.MustCompile(`^\*show +([A-Za-z_][A-Za-z_0-9]{0,59}) *$`),
	"size":   regexp.MustCompile(`^\*size +([A-Za-z_][A-Za-z_0-9]{0,59}) *$`),
	"first":  regexp.MustCompile(`^\*first +([A-Za-z_][A-Za-z_0-9]{0,59}) *$`),
	"budget": regexp.MustCompile(`^\*budget +([0-9]{1,6}) *$`),
	"run":    regexp.MustCompile(`^\*run +([0-3]) *$`),
}

// sessionKeys are the words that look like names and are none.
const sessionKeys = " and as assert break case class continue def del elif else except finally for from global if import in is lambda match nonlocal not or pass raise return try while with yield False None True "

// commandWord is the word of a line that is this command.
func commandWord(line string, command string) (string, bool) {
	found := commandForms[command].FindStringSubmatch(line)
	if found == nil || strings.Contains(sessionKeys, " "+found[1]+" ") {
		return "", false
	}
	return found[1], true
}

// sessionByRule is chapter 17 a second time: what a line says is found by going
// through all the lines above it anew.
func sessionByRule(text string) string {
	if !utf8.ValidString(text) || len(text) > 16384 {
		return "no text\n"
	}
	lines := strings.Split(text, "\n")
	if lines[len(lines)-1] == "" {
		lines = lines[:len(lines)-1]
	}
	out, commands := "", 0
	for i, line := range lines {
		if strings.HasPrefix(line, "*") {
			commands++
		}
		if commands > 50 {
			return out + "enough\n"
		}
		said := saidByRule(lines[:i], line)
		if len(out)+len(said) > 16384 {
			return out + "large\n"
		}
		out += said
	}
	return out
}

func saidByRule(above []string, line string) string {
	what := fmt.Sprintf("what %d\n", len(above)+1)
	if !strings.HasPrefix(line, "*") {
		if strings.Count(line, " ") == len(line) || len(modsByRule(above)) > 0 {
			return ""
		}
		return what
	}
	for _, command := range []string{"module", "budget"} {
		if _, ok := commandWord(line, command); ok {
			return ""
		}
	}
	if word, ok := commandWord(line, "run"); ok {
		return runByRule(modsByRule(above), budgetByRule(above), word)
	}
	for _, command := range []string{"show", "size", "first"} {
		if name, ok := commandWord(line, command); ok {
			return ofModuleByRule(modsByRule(above), command, name)
		}
	}
	return what
}

func budgetByRule(above []string) int64 {
	for _, line := range slices.Backward(above) {
		if word, ok := commandWord(line, "budget"); ok {
			return wholeOf(word)
		}
	}
	return 10000
}

// modsByRule are the modules that the lines have given, in their order.
func modsByRule(above []string) []impl.Mod {
	mods, name := []impl.Mod{}, ""
	place := func(name string) int {
		return slices.IndexFunc(mods, func(m impl.Mod) bool { return m.Name == name })
	}
	for _, line := range above {
		if word, ok := commandWord(line, "module"); ok {
			name = word
			if at := place(name); at >= 0 {
				mods[at].Src = ""
			} else {
				mods = append(mods, impl.Mod{Name: name})
			}
		} else if word, ok := commandWord(line, "first"); ok && place(word) >= 0 {
			at := place(word)
			mods = slices.Concat(mods[at:at+1], mods[:at], mods[at+1:])
		} else if name != "" && !strings.HasPrefix(line, "*") {
			mods[place(name)].Src += line + "\n"
		}
	}
	return mods
}

// runByRule tells of each run what Meaning tells.
func runByRule(mods []impl.Mod, budget int64, how string) string {
	o := impl.Meaning(mods, budget)
	if how != "3" && !sameOut(o, impl.RunMods(mods, budget, wholeOf(how))) {
		return "not what is meant\n"
	}
	out := o.Text
	if out != "" && out[len(out)-1] != '\n' {
		out += "\n"
	}
	word := []string{"end", "raised " + o.Exc, "ticks", "fault", "large", "args", "steps"}[o.Code]
	if o.Code == impl.OutFault {
		word = fmt.Sprintf("fault %s %d %d", mods[o.Mod].Name, o.Fault.Code, o.Fault.Line)
	}
	out += fmt.Sprintf("%s at %d\n", word, o.Ticks)
	for _, spot := range o.Trace {
		out += fmt.Sprintf("  %s %d\n", spot.Name, spot.Line)
	}
	return out
}

func ofModuleByRule(mods []impl.Mod, command string, name string) string {
	at := slices.IndexFunc(mods, func(m impl.Mod) bool { return m.Name == name })
	if at < 0 {
		return "no " + name + "\n"
	}
	if command == "first" {
		return ""
	}
	tree, fault := impl.Parse(mods[at].Src)
	code := impl.Code{}
	if fault.Code == 0 && impl.TreeOk(tree) {
		code, fault = impl.Compile(tree)
	}
	switch {
	case fault.Code != 0:
		return fmt.Sprintf("fault %s %d %d\n", name, fault.Code, fault.Line)
	case !impl.CodeOk(code):
		return "large " + name + "\n"
	case command == "size":
		return fmt.Sprintf("code %d improved %d\n", impl.Measure(code), impl.Measure(impl.Improve(code)))
	}
	text, _ := impl.Show(tree)
	if text == "" {
		text = "\n"
	}
	return text
}

// scriptOf has the modules of a program, or says that a line of one would be a
// command, or that it is too long.
func scriptOf(mods []impl.Mod) (string, bool) {
	var out strings.Builder
	for _, m := range mods {
		if strings.HasPrefix(m.Src, "*") || strings.Contains(m.Src, "\n*") {
			return "", false
		}
		out.WriteString("*module " + m.Name + "\n" + m.Src)
		if m.Src != "" && !strings.HasSuffix(m.Src, "\n") {
			out.WriteString("\n")
		}
	}
	script := out.String()
	return script, len(script) < 16000 && utf8.ValidString(script)
}

// drawnScript draws lines of a few modules, of commands, and of what looks like one.
func drawnScript(r *rand.Rand) string {
	one := func(list ...string) string { return list[r.Intn(len(list))] }
	name := func() string { return one("a", "a", "b", "b", "c", "d", "if", "9", "a.b", "é", "_x") }
	command := func() string {
		switch r.Intn(10) {
		case 0, 1, 2:
			return "*run " + one("0", "1", "2", "3", "3", "4", "01", "", "a")
		case 3, 4:
			return one("*show ", "*size ", "*show  ", "*show\t") + name() + one("", "", " ", " x")
		case 5:
			return "*first " + name()
		case 6:
			return "*budget " + one("0", "1", "3", "7", "20", "400", "20000", "20001", "000005", "1234567", "-1", "x")
		}
		return one("*", "* ", "*go", "**", "*run", "* run 0", "*module", "*first", "*show a b", "*modulea", "*run0")
	}
	line := func() string {
		return one("print(1)", "x = 1", "x += 1", "import a", "import b", "from c import x", "print(x, end='')", "print(a.x)", "", " ", "# note", "1 / 0",
			"for i in range(9): x = i", "def f(): return x", "f()", "if x:\n  print('yes')", "raise ValueError('v')", "(", "  y = 1", " *z", "print(1 + 2)", "while True: pass", "nonlocal x", "print('t' * 900)")
	}
	out := []string{}
	for range r.Intn(5) {
		out = append(out, one("", " ", "\t", "x", command(), command()))
	}
	for range 1 + r.Intn(6) {
		out = append(out, "*module "+name())
		for range r.Intn(5) {
			out = append(out, line())
		}
		for range r.Intn(6) {
			out = append(out, command())
		}
		if r.Intn(3) == 0 {
			out = append(out, line())
		}
	}
	for range r.Intn(6) {
		out = append(out, command())
	}
	return strings.Join(out, "\n") + one("\n", "\n", "")
}
