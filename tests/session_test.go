package tests

import (
	"fmt"
	"math/rand"
	"strings"
	"testing"

	"loop.example/g00009/impl"
)

// TestP19Words has each command with its words right, and in every way wrong; what
// is wrong does nothing.
func TestP19Words(t *testing.T) {
	before := "*module b\nprint('b')\n*module a\nprint('a')\n"
	after := "*run 0\n*show a\n*show b\n*budget 20000\n*run 3\n"
	plain := impl.Session(before + after)
	if plain != "b\nend at 1\nprint('a')\nprint('b')\nb\nend at 1\n" {
		t.Fatalf("%q", plain)
	}
	for _, command := range []string{"module", "budget", "run", "show", "size", "first"} {
		word := map[string]string{"budget": "0", "run": "1"}[command]
		if word == "" {
			word = "a"
		}
		right := impl.Session(before + "*" + command + " " + word + "\n" + after)
		if right == plain || strings.Contains(right, "what") {
			t.Errorf("*%s does nothing: %q", command, right)
		}
		for _, form := range []string{"*%s  %s", "*%s %s ", "*%s    %s    ", "*%s %s  "} {
			wantSession(t, before+fmt.Sprintf(form, command, word)+"\n"+after, right)
		}
		wrong := []string{
			"*" + command, "*" + command + " ", "*" + command + "   ", "* " + command + " " + word, "*  " + command + " " + word, "**" + command + " " + word,
			"*" + command + " " + word + " " + word, "*" + command + " " + word + " x", "*" + command + "  " + word + "  .", "*" + command + " a b c", "*" + command + word,
			"*" + command + "\t" + word, "*" + command + " " + word + "\t", "*" + command + " \t" + word, "*" + command + " " + word + "\r", "*" + command + "\u00a0" + word, "*" + command + " " + word + "\x00",
			"*" + strings.ToUpper(command) + " " + word, "*" + strings.ToUpper(command[:1]) + command[1:] + " " + word, "*" + command[:len(command)-1] + " " + word, "*" + command + "s " + word, "*" + command + ": " + word,
			"* ", "*", "* " + command, "***", "*" + word, "* * *", "*\t",
		}
		for _, line := range wrong {
			wantSession(t, before+line+"\n"+after, "what 5\n"+plain)
		}
	}
}

func TestP19Names(t *testing.T) {
	good := []string{"a", "Z", "_", "__", "a1", "_1", "main", "__main__", "match_", "If", "IF", "none", "print", "self", "module", "run", strings.Repeat("n", impl.MaxName), strings.Repeat("_9", impl.MaxName/2)}
	for _, name := range good {
		wantSession(t, "*module "+name+"\nx=1\n*show "+name+"\n*size "+name+"\n*first "+name+"\n*run 0\n", "x = 1\ncode 7 improved 7\nend at 1\n")
		wantSession(t, "*show "+name+"\n*size "+name+"\n*first "+name+"\n", strings.Repeat("no "+name+"\n", 3))
		if o := impl.Meaning([]impl.Mod{{Name: name}}, 5); o.Code != impl.OutEnd {
			t.Error(name, outTold(o))
		}
	}
	bad := []string{"1", "0a", "9_", "a.b", "a-b", "a,", "(a)", "'a'", "a'", "f'a'", "r''", "+", "=", "é", "aé", "añb", "日", "ａ", "a\u0301", "a#", "#", "a\\", "\\", "$", "a$", "a;", "a:", "*", "*a", "a*", "a\ta", "a\r", "\x01", "\x7f", strings.Repeat("n", impl.MaxName+1), strings.Repeat("n", 4000)}
	for _, name := range append(bad, strings.Fields(sessionKeys)...) {
		script := "*module m\nprint(1)\n*module " + name + "\nprint(2)\n*show " + name + "\n*size " + name + "\n*first " + name + "\n*run 0\n"
		wantSession(t, script, "what 3\nwhat 5\nwhat 6\nwhat 7\n1\n2\nend at 2\n")
		if o := impl.Meaning([]impl.Mod{{Name: name}}, 5); o.Code != impl.OutArgs {
			t.Error(name, outTold(o))
		}
	}
}

func TestP19Numbers(t *testing.T) {
	count := "*module a\nx = 0\nwhile x < 3: x += 1\nprint(x)\n"
	end, args := "3\nend at 10\n", "args at 0\n"
	rows := []sessionRow{{count + "*run 0\n*run 3\n", end + end}}
	for _, number := range []string{"10", "11", "010", "000010", "00010", "20000", "020000", "9999"} {
		rows = append(rows, sessionRow{count + "*budget " + number + "\n*run 0\n", end})
	}
	for _, number := range []string{"0", "00", "000000"} {
		rows = append(rows, sessionRow{count + "*budget " + number + "\n*run 0\n", "ticks at 0\n"})
	}
	for _, number := range []string{"1", "9", "000009", "5"} {
		rows = append(rows, sessionRow{count + "*budget " + number + "\n*run 0\n", fmt.Sprintf("ticks at %d\n", wholeOf(number))})
	}
	for _, number := range []string{"20001", "020001", "99999", "100000", "999999"} {
		rows = append(rows, sessionRow{count + "*budget " + number + "\n*run 0\n*run 1\n*run 2\n*run 3\n", args + args + args + args})
	}
	for _, number := range []string{"0000010", "1000000", "9999999", "00000000000000000000", "18446744073709551626", "-1", "+1", "-0", "1.0", "1e3", "0x1", "1_0", "a", "1a", "a1", "ten", "٣", "１", "²", "1,0", "--1", "- 1", "1 0", "''", ".", "1\t"} {
		rows = append(rows, sessionRow{count + "*budget " + number + "\n*run 0\n", "what 5\n" + end})
	}
	// A budget counts for the runs behind it, and one that is none leaves it.
	rows = append(rows,
		sessionRow{count + "*budget 4\n*run 0\n*budget 5\n*run 1\n*run 2\n*budget 30\n*run 3\n", "ticks at 4\nticks at 5\nticks at 5\n" + end},
		sessionRow{"*budget 4\n" + count + "*run 0\n*budget x\n*run 0\n", "ticks at 4\nwhat 7\nticks at 4\n"},
		sessionRow{count + "*budget 20001\n*run 0\n*budget 1234567\n*run 0\n*budget 20000\n*run 0\n", args + "what 7\n" + args + end},
		sessionRow{"*module a\nwhile True: pass\n*run 0\n*budget 20000\n*run 3\n", "ticks at 10000\nticks at 20000\n"},
	)
	wantSessions(t, rows)
}

func TestP19Hows(t *testing.T) {
	script := "*module a\nprint(1 + 2)\n"
	for _, how := range []string{"0", "1", "2", "3"} {
		wantSession(t, script+"*run "+how+"\n", "3\nend at 1\n")
		wantSession(t, script+"*run "+how+" \n*run   "+how, "3\nend at 1\n3\nend at 1\n")
	}
	for _, how := range []string{"4", "5", "9", "00", "01", "03", "10", "33", "0x", "-0", "-1", "+1", "a", "O", "٣", "²", "０", "0.", "0,1", "/", ":", "\x00", "\x01", "\x02", "\x03"} {
		wantSession(t, script+"*run "+how+"\n*run 0\n", "what 3\n3\nend at 1\n")
	}
}

func TestP19ModulesAgain(t *testing.T) {
	two := "*module a\nprint('a')\n*module b\nprint('b')\n"
	wantSessions(t, []sessionRow{
		{two + "*run 0\n", "a\nend at 1\n"},
		// The lines are the new ones, the place is the old one.
		{two + "*module a\nprint('new')\n*run 0\n*show a\n*show b\n", "new\nend at 1\nprint('new')\nprint('b')\n"},
		{two + "*module b\nprint('new')\n*run 0\n*show b\n", "a\nend at 1\nprint('new')\n"},
		{two + "*module b\nprint('new')\n*first b\n*run 0\n*module b\n*run 0\n*module a\nimport b\n*first a\n*run 0\n", "new\nend at 1\nend at 0\nend at 1\n"},
		{two + "*module a\n*run 0\n*show a\n", "end at 0\n\n"},
		{two + "*run 0\n*module a\nimport b\nprint('c')\n*run 0\n*module b\n1 / 0\n*run 0\n", "a\nend at 1\nb\nc\nend at 3\nraised ZeroDivisionError at 2\n  <module> 1\n  <module> 1\n"},
		{"*module a\n*module a\n*module a\nprint(1)\n*run 0\n", "1\nend at 1\n"},
		// Modules of one name are one: 20 of them can be run.
		{strings.Repeat("*module a\nprint(1)\n", 30) + "*run 0\n", "1\nend at 1\n"},
		{"*module a\n(\n*show a\n*module a\nx\n*show a\n", "fault a 3 1\nx\n"},
	})
}

func TestP19First(t *testing.T) {
	three := "*module a\nprint('a')\n*module b\nprint('b', __name__)\n*module c\nimport b\nprint('c')\n"
	wantSessions(t, []sessionRow{
		{three + "*run 0\n", "a\nend at 1\n"},
		{three + "*first a\n*run 0\n", "a\nend at 1\n"},
		{three + "*first b\n*run 0\n", "b __main__\nend at 1\n"},
		{three + "*first c\n*run 0\n", "b b\nc\nend at 3\n"},
		{three + "*first c\n*first c\n*run 0\n", "b b\nc\nend at 3\n"},
		{three + "*first c\n*first b\n*run 0\n*first a\n*run 1\n*first c\n*run 2\n", "b __main__\nend at 1\na\nend at 1\nb b\nc\nend at 3\n"},
		{three + "*first d\n*run 0\n", "no d\na\nend at 1\n"},
		{three + "*first\n*first a b\n*first 1\n*run 0\n", "what 8\nwhat 9\nwhat 10\na\nend at 1\n"},
		{"*first a\n", "no a\n"},
		// Each is found by its name wherever it stands now.
		{three + "*first c\n*show a\n*show b\n*show c\n*module a\nx\n*module b\ny\n*module c\nz\n*show a\n*show b\n*show c\n*run 0\n", "print('a')\nprint('b', __name__)\nimport b\nprint('c')\nx\ny\nz\nraised NameError at 1\n  <module> 1\n"},
		{three + "*first b\n*module d\nprint('d')\n*run 0\n*first d\n*run 0\n*first a\n*run 0\n", "b __main__\nend at 1\nd\nend at 1\na\nend at 1\n"},
		// A fault is told with the name of the module that has it.
		{"*module a\nimport b\n*module b\nimport c\n*module c\n(\n*run 0\n*first c\n*run 0\n*first b\n*run 0\n", "fault c 3 1 at 2\nfault c 3 1 at 0\nfault c 3 1 at 1\n"},
	})
}

func TestP19LinesAheadOfTheFirstModule(t *testing.T) {
	wantSessions(t, []sessionRow{
		{"", ""},
		{"\n", ""},
		{"\n\n\n", ""},
		{" ", ""},
		{"   \n \n", ""},
		{"\t\n", "what 1\n"},
		{" \t \n", "what 1\n"},
		{"x", "what 1\n"},
		{"x\n", "what 1\n"},
		{"\n x\n\n  \ny\n", "what 2\nwhat 5\n"},
		{" *run 0\n", "what 1\n"},
		{"\r\n \r\n\x00\n\u00a0\n\u3000\né\n# note\n", "what 1\nwhat 2\nwhat 3\nwhat 4\nwhat 5\nwhat 6\nwhat 7\n"},
		{"x\n*module a\ny\n*show a\n", "what 1\ny\n"},
		{"*run 0\nx\n\n*go\ny\n*module a\nz\n*show a\n", "args at 0\nwhat 2\nwhat 4\nwhat 5\nz\n"},
		{"*module 1\nx\n*show a\ny\n*first a\n \nz\n*budget 3\nw\n", "what 1\nwhat 2\nno a\nwhat 4\nno a\nwhat 7\nwhat 9\n"},
		{strings.Repeat("\n", 98) + "x\n" + strings.Repeat(" \n", 900) + "*go\nx", "what 99\nwhat 1000\nwhat 1001\n"},
	})
}

// TestP19LinesOfAModule tells which lines are a module's: all that are no commands
// below it, up to the next one that begins.
func TestP19LinesOfAModule(t *testing.T) {
	wantSessions(t, []sessionRow{
		{"*module a\nprint(2\n *3)\n*run 0\n", "6\nend at 1\n"},
		{"*module a\nprint(2\n\t*3)\n  *show a\n*show a\n", "fault a 8 3\n"},
		{"*module a\n\n\n  \n# note\nx\n\n*show a\n*module b\n\n1 / 0\n*first b\n*run 0\n", "x\nraised ZeroDivisionError at 1\n  <module> 2\n"},
		{"*module a\n\n\n\nx = '''\n\n a\n'''\nprint(x)\n\n*run 0\n", "\n\n a\n\nend at 2\n"},
		{"*module a\nprint(1)\n*go\nprint(2)\n*run 0\n", "what 3\n1\n2\nend at 2\n"},
		{"*module a\nprint((1,\n*go\n2))\n*run 0\n", "what 3\n(1, 2)\nend at 3\n"},
		{"*module a\nprint(1)\n*\nprint(2)\n* module b\nprint(3)\n*module\nprint(4)\n*show a\n", "what 3\nwhat 5\nwhat 7\nprint(1)\nprint(2)\nprint(3)\nprint(4)\n"},
		{"*module a\nprint(1)\n*module if\nprint(2)\n*module b c\nprint(3)\n*module 9\nprint(4)\n*run 0\n", "what 3\nwhat 5\nwhat 7\n1\n2\n3\n4\nend at 4\n"},
		{"*module a\nx\n*module b\ny\n*module if\nz\n*show a\n*show b\n", "what 5\nx\ny\nz\n"},
		{"*module a\nx\n*module b\ny\n*go\nz\n*show a\nw\n*size a\n*first a\nv\n*budget 7\nu\n*show b\n*show a\n", "what 5\nx\ncode 5 improved 5\ny\nz\nw\nv\nu\nx\n"},
		{"*module a\nprint(1)\n*run 0\nprint(2)\n*run 0\n*show b\nprint(3)\n*run 3\n", "1\nend at 1\n1\n2\nend at 2\nno b\n1\n2\n3\nend at 3\n"},
		{"*module a\nx\n*module b\ny\n*module a\nz\n*show b\nw\n*show a\n", "y\nz\nw\n"},
		{"*module a\nprint(1)\n*run 0", "1\nend at 1\n"},
		{"*module a\nprint(1)\n*run 0\nprint(2)", "1\nend at 1\n"},
		{"*module a", ""},
		{"*module a\nx", ""},
		{"*go", "what 1\n"},
		{"*module a\nprint(1)\r\n*run 0\n", "fault a 1 0 at 0\n"},
	})
}

func TestP19NoText(t *testing.T) {
	full := "*show a\n" + strings.Repeat(" ", impl.MaxText-8)
	wantSessions(t, []sessionRow{
		{"\xff", "no text\n"},
		{"*show a\n\xff", "no text\n"},
		{"\x80*show a\n", "no text\n"},
		{"*show a\n# \xed\xa0\x80\n", "no text\n"},
		{"*show a\n# \xc0\x80\n", "no text\n"},
		{"*show a\n# \xf4\x90\x80\x80\n", "no text\n"},
		{"*show a\n# \xe2\x82", "no text\n"},
		{"*show a\n*module a\n# \u20ac \U0010ffff\n*size a\n", "no a\ncode 2 improved 2\n"},
		{full, "no a\n"},
		{full[1:], "what 1\n"},
		{full + " ", "no text\n"},
		{full + full, "no text\n"},
	})
}

func TestP19Drawn(t *testing.T) {
	kinds := make([]map[string]int, pieces)
	inPieces(t, 6000, func(t *testing.T, i int) {
		script := drawnScript(rand.New(rand.NewSource(int64(i))))
		wantSessionRule(t, script)
		if kinds[i%pieces] == nil {
			kinds[i%pieces] = map[string]int{}
		}
		for _, line := range strings.Split(impl.Session(script), "\n") {
			word, _, _ := strings.Cut(line, " ")
			kinds[i%pieces][word]++
		}
	})
	t.Cleanup(func() {
		for _, word := range []string{"end", "raised", "ticks", "fault", "args", "no", "what", "code"} {
			n := 0
			for _, kind := range kinds {
				n += kind[word]
			}
			if n < 20 {
				t.Error(word, "is said", n, "times")
			}
		}
	})
}
