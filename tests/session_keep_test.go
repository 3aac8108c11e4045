package tests

import (
	"math/rand"
	"strings"
	"sync"
	"testing"

	"loop.example/g00009/impl"
)

func keepScripts() []string {
	out := []string{"", "\n", "x", "*", "*go\n", "\xff", "*module a\nprint(1)\n*run 0\n*show a\n*size a\n*first a\n", strings.Repeat("*go\n", 60), strings.Repeat("x\n", 4000), strings.Repeat("x", impl.MaxText+1)}
	for i, p := range allProgs() {
		if script, ok := scriptOf(modsOf(p.src)); ok && i%9 == 0 {
			out = append(out, script+"*run 0\n*run 1\n*run 2\n*run 3\n*show main\n*size main\n*show m\n*first m\n*budget 7\n*run 0\n")
		}
	}
	for i := range 300 {
		out = append(out, drawnScript(rand.New(rand.NewSource(int64(i)+20000))))
	}
	return out
}

func TestP20SessionsTheSameTwice(t *testing.T) {
	t.Parallel()
	for i, script := range keepScripts() {
		kept := strings.Clone(script)
		first := impl.Session(script)
		second := impl.Session(strings.Clone(script))
		if first != second || impl.Session(script) != first || script != kept {
			t.Fatalf("%q\n says %q\n and then %q", script, first, second)
		}
		wantUnshared(t, i, []string{first, second}, []string{script})
	}
}

// Sessions at the same time do not meet one another.
func TestP20SessionsBesideOthers(t *testing.T) {
	t.Parallel()
	scripts := keepScripts()
	said := make([]string, len(scripts))
	for i, script := range scripts {
		said[i] = impl.Session(script)
	}
	var all sync.WaitGroup
	for worker := range 8 {
		all.Go(func() {
			for i := range scripts {
				at := (i*7 + worker*31) % len(scripts)
				if impl.Session(scripts[at]) != said[at] {
					t.Errorf("%q says otherwise beside others", scripts[at])
				}
			}
		})
	}
	all.Wait()
}
