package tests

import (
	"fmt"
	"strings"
	"testing"

	"loop.example/g00009/impl"
)

// saysBytes is a script that says so many bytes by a run, which prints them at once.
func saysBytes(t *testing.T, size int) string {
	t.Helper()
	script := func(n int) string { return fmt.Sprintf("*module a\nprint('x' * %d)\n*run 0\n", n) }
	for n := size - 30; n < size; n++ {
		if len(impl.Session(script(n))) == size {
			return script(n)
		}
	}
	t.Fatal("no run says", size, "bytes")
	return ""
}

// TestP19AnswersAtTheLimit has answers of MaxText bytes, which may be, and of one
// more, which end ahead of the command that would say it.
func TestP19AnswersAtTheLimit(t *testing.T) {
	full := saysBytes(t, impl.MaxText)
	whole := impl.Session(full)
	if len(whole) != impl.MaxText || !strings.HasSuffix(whole, "\nend at 1023\n") {
		t.Fatalf("%.20q of %d", whole, len(whole))
	}
	more := strings.Replace(full, "* ", "* (1 + ", 1)
	more = strings.Replace(more, ")\n", "))\n", 1)
	next := saysBytes(t, impl.MaxText-5)
	quiet := "*budget 5\n*module b\nx\n*first b\n*first a\n*module a\ny\n"
	wantSessions(t, []sessionRow{
		{full, whole},
		{full + "\n\nx\n", whole},
		{full + quiet, whole},
		{more, "large\n"},
		{full + "*go\n", whole + "large\n"},
		{full + quiet + "*show c\n*show c\n", whole + "large\n"},
		{full + "*module b\n*show b\n", whole + "large\n"},
		{full + "*run 0\n*module b\n*go\n", whole + "large\n"},
		{"*show c\n" + full, "no c\nlarge\n"},
		{"*show c\n" + full + "*show c\n", "no c\nlarge\n"},
		{"*show c\n" + next, "no c\n" + impl.Session(next)},
		{next + "*show c\n", impl.Session(next) + "no c\n"},
		{next + "*show cc\n", impl.Session(next) + "large\n"},
		{next + "*show cc\n*show c\n", impl.Session(next) + "large\n"},
		{next + "*show c\n*show c\n", impl.Session(next) + "no c\nlarge\n"},
		{next + "*go\n", impl.Session(next) + "large\n"},
		// An Exc that is long.
		{"*module a\nraise ValueError('x' * 16384)\n*run 0\n*show a\n", "large\n"},
		{"*module a\nprint('x' * 16000)\nraise ValueError('y' * 16384)\n*show a\n*run 0\n", "print('x' * 16000)\nraise ValueError('y' * 16384)\nlarge\n"},
	})
}

// A run of which the Text is full says more than there is room for.
func TestP19FullTexts(t *testing.T) {
	wantSessions(t, []sessionRow{
		{"*module a\nprint('x' * 16383)\n*go\n*run 0\n", "what 3\nlarge\n"},
		{"*module a\nprint('x' * 16384, end='')\n*run 3\n", "large\n"},
		{"*module a\nprint('x' * 16384)\n*run 0\n*run 1\n", "large at 1025\nlarge at 1025\n"},
	})
}

// TestP19LinesAtTheLimit has so many lines ahead of a module that what is said of
// them has no room.
func TestP19LinesAtTheLimit(t *testing.T) {
	said, n := "", 0
	for len(said)+len(fmt.Sprintf("what %d\n", n+1)) <= impl.MaxText {
		n++
		said += fmt.Sprintf("what %d\n", n)
	}
	if n < 1500 || n > 3000 {
		t.Fatal(n)
	}
	wantSessions(t, []sessionRow{
		{strings.Repeat("x\n", n), said},
		{strings.Repeat("x\n", n+1), said + "large\n"},
		{strings.Repeat("x\n", n+900), said + "large\n"},
		{strings.Repeat("x\n", n) + "\n  \n*module a\nx\n*first a\n", said},
		{strings.Repeat("x\n", n) + "*module a\nx\n*size a\n", said + "large\n"},
	})
}

func TestP19HowManyCommands(t *testing.T) {
	what := func(n int) string {
		out := ""
		for i := 1; i <= n; i++ {
			out += fmt.Sprintf("what %d\n", i)
		}
		return out
	}
	most := impl.MaxCommands
	quiet := strings.Repeat("*budget 9\n", most-2)
	wantSessions(t, []sessionRow{
		{strings.Repeat("*go\n", most-1), what(most - 1)},
		{strings.Repeat("*go\n", most), what(most)},
		{strings.Repeat("*go\n", most+1), what(most) + "enough\n"},
		{strings.Repeat("*go\n", most) + "*", what(most) + "enough\n"},
		{strings.Repeat("*go\n", most+1) + "x\n*go\n", what(most) + "enough\n"},
		{strings.Repeat("*go\n", 300), what(most) + "enough\n"},
		// Lines that begin with no * are not counted.
		{strings.Repeat("*go\n", most) + "\nx\n *\n", what(most) + fmt.Sprintf("what %d\nwhat %d\n", most+2, most+3)},
		{strings.Repeat("*show a\nx\n\n", most), sessionByRule(strings.Repeat("*show a\nx\n\n", most))},
		// Commands that say nothing are counted.
		{"*module a\nprint(1)\n" + quiet + "*run 0\n", "1\nend at 1\n"},
		{"*module a\nprint(1)\n" + quiet + "*run 0\n\nprint(2)\n", "1\nend at 1\n"},
		{"*module a\nprint(1)\n" + quiet + "*budget 9\n*run 0\n", "enough\n"},
		{"*module a\nprint(1)\n" + quiet + "*run 0\n*run 0\n", "1\nend at 1\nenough\n"},
		{"*module a\nprint(1)\n" + quiet + "*run 0\n*budget 1\n", "1\nend at 1\nenough\n"},
		{"*module a\nprint(1)\n" + quiet + "*run 0\n*module b\nx\n", "1\nend at 1\nenough\n"},
		// And so are those that are none.
		{"*module a\nprint(1)\n" + strings.Repeat("*budget x\n*\n", (most-2)/2) + "*run 0\n*run 0\n", strings.TrimPrefix(what(most), "what 1\nwhat 2\n") + "1\nend at 1\nenough\n"},
		{strings.Repeat("*module a\n", most) + "x\n*show a\n", "enough\n"},
		{strings.Repeat("*module a\n", most-1) + "x\n*show a\n", "x\n"},
	})
}

// The command behind the last one is not done, so that it can't say too much.
func TestP19EnoughAheadOfLarge(t *testing.T) {
	full := saysBytes(t, impl.MaxText)
	quiet := strings.Repeat("*budget 9\n", impl.MaxCommands-2)
	wantSession(t, full+quiet+"*go\n", impl.Session(full)+"enough\n")
	wantSession(t, full+strings.TrimPrefix(quiet, "*budget 9\n")+"*go\n*go\n", impl.Session(full)+"large\n")
}
