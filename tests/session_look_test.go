package tests

import (
	"strings"
	"testing"

	"loop.example/g00009/impl"
)

func TestP19Show(t *testing.T) {
	wantSessions(t, []sessionRow{
		{"*show a\n", "no a\n"},
		{"*module a\nx\n*show b\n*show A\n*show a\n", "no b\nno A\nx\n"},
		// An empty one, and ones whose lines are nothing, are an empty line.
		{"*module a\n*show a\n", "\n"},
		{"*module a\n\n*show a\n", "\n"},
		{"*module a\n\n  \n  # note\n\n*show a\n*show a\n", "\n\n"},
		{"*module a\nx=1;y = (2)\n*show a\n", "x = 1\ny = 2\n"},
		{"*module a\nif a: b\nelif c:\n  d # note\n*show a\n", "if a:\n    b\nelse:\n    if c:\n        d\n"},
		{"*module a\nx = '\u20ac'\n*show a\n", "x = '\u20ac'\n"},
		// It is not run.
		{"*module a\nprint(1)\nimport b\n1 / 0\n*show a\n", "print(1)\nimport b\n1 / 0\n"},
		{"*budget 999999\n*module a\nx\n*show a\n", "x\n"},
		{"*module a\n(\n*show a\n", "fault a 3 1\n"},
		{"*module a\nx\r\n*show a\n", "fault a 1 0\n"},
		{"*module a\nx\n  y\n*show a\n", "fault a 8 2\n"},
		{"*module a\nx\n*module b\n\n1 = 2\n*show b\n*show a\n", "fault b 9 2\nx\n"},
		{"*module a\n\nnonlocal x\n*show a\n", "fault a 11 2\n"},
		{"*module a\n" + strings.Repeat("x;", 3000) + "\n*show a\n", "fault a 10 0\n"},
		{"*module a\n" + strings.Repeat("x;", 2999) + "\n*show a\n", strings.Repeat("x\n", 2999)},
	})
}

func TestP19Size(t *testing.T) {
	wantSessions(t, []sessionRow{
		{"*size a\n", "no a\n"},
		{"*module a\n*size b\n*size a\n", "no b\ncode 2 improved 2\n"},
		{"*module a\n# note\n*size a\n", "code 2 improved 2\n"},
		{"*module a\npass\n*size a\n", "code 3 improved 3\n"},
		{"*module a\n1\n*size a\n", "code 5 improved 3\n"},
		{"*module a\nx = 1 + 2 * 3\n*size a\n", "code 11 improved 7\n"},
		{"*module a\nwhile a:\n  break\n*size a\n", "code 11 improved 10\n"},
		{"*module a\nx = [i for i in a if i]\n*size a\n", "code 18 improved 18\n"},
		{"*module a\ndef f(): return -1\n*size a\n", "code 12 improved 9\n"},
		{"*module a\n1 / 0\n*module b\nimport a\n*size a\n*size b\n", "code 7 improved 7\ncode 5 improved 5\n"},
		{"*module a\n(\n*size a\n", "fault a 3 1\n"},
		{"*module a\n\n\nx = $\n*size a\n", "fault a 6 3\n"},
		{"*module a\nx\n1 = 2\n*size a\n", "fault a 9 2\n"},
		{"*module a\nx\ndef f(y):\n  global y\n*size a\n*module a\n*size a\n", "fault a 11 3\ncode 2 improved 2\n"},
		{"*module a\n" + strings.Repeat("x;", 3000) + "\n*size a\n", "fault a 10 0\n"},
		{"*module a\n" + strings.Repeat("x;", 2999) + "\n*size a\n", "code 8999 improved 8999\n"},
	})
}

// showOf is a module of which the Show has so many bytes: each of the statements in
// many blocks is far longer there.
func showOf(t *testing.T, size int) string {
	t.Helper()
	const deep = 20
	nest, shown := "", 0
	for i := range deep {
		nest += strings.Repeat(" ", i) + "if a:\n"
		shown += 4*i + len("if a:\n")
	}
	line := 4*deep + len("a\n")
	many := (size - shown) / line
	last := (size-shown)%line + 1
	if last > 60 {
		t.Fatal("no name is so long", last)
	}
	return nest + strings.Repeat(" ", deep) + strings.Repeat("a;", many-1) + strings.Repeat("b", last) + "\n"
}

func TestP19ModulesThatAreTooLarge(t *testing.T) {
	for _, size := range []int{impl.MaxText - 1, impl.MaxText, impl.MaxText + 1, impl.MaxText + 2} {
		src := showOf(t, size)
		script := "*module a\n" + src
		tree, fault := impl.Parse(src)
		text, ok := impl.Show(tree)
		if fault.Code != 0 || ok != (size <= impl.MaxText) || ok && len(text) != size {
			t.Fatal(size, fault, ok, len(text))
		}
		if !ok {
			wantSession(t, script+"*show a\n*size a\n*run 0\n*run 3\n*module b\nimport a\n*first b\n*run 1\n*run 2\n", "large a\nlarge a\nfault a 8 0 at 0\nfault a 8 0 at 0\nfault a 8 0 at 1\nfault a 8 0 at 1\n")
			wantSession(t, script+"nonlocal x\n*show a\n*size a\n(\n*show a\n*size a\n", "large a\nlarge a\nfault a 3 23\nfault a 3 23\n")
			continue
		}
		code, _ := impl.Compile(tree)
		if impl.Measure(code) < 100 {
			t.Fatal(impl.Measure(code))
		}
		wantSession(t, script+"*show a\n", text)
		if said := impl.Session(script + "*size a\n*run 0\n"); !strings.HasPrefix(said, "code ") || !strings.HasSuffix(said, "raised NameError at 1\n  <module> 1\n") {
			t.Errorf("%q", said)
		}
	}
}
