package tests

import (
	"fmt"
	"math/rand"
	"slices"
	"strconv"
	"strings"
	"testing"

	"loop.example/g00009/impl"
)

// depthRows: the kind of a part, how many values it has at most, its steps. The
// most are at a place of each kind.
const depthRows = `
module 0 x: Jump>x
module 0 Raise=0
module 1 Const=1 Return
module 0 Stmt=1 Turn Unbind=a Raise=0
module 1 Const=1 Return Const=1 Const=1 Const=1 Return
module 1 Const=1 Pop Const=1 Return
module 2 Const=1 Dup Pop Return
module 4 Const=1 Const=1 Dup2 Pop Pop Pop Return
module 3 Const=1 Const=1 Const=1 Rot Return
module 3 Load=a Args Const=1 Add Call Return
module 4 Load=a Args Const=1 Const=1 Binary=6 Key=a Call Return
module 3 Dict Const=1 Const=1 Put Finish=3 Return
module 7 Const=1 Unpack=7 Pop Pop Pop Pop Pop Pop Return
module 1 Const=1 Unpack=0 Const=1 Return
module 5 Const=1 Const=1 Const=1 Const=1 Const=1 Join=5 Return
module 1 Join=0 Return
module 2 Const=1 Iter t: For>x Pop Jump>t x: Pop Const=1 Return
module 3 Const=1 Iter t: For>x Dup Pop Pop Jump>t x: Pop Const=1 Return
module 3 Const=1 Iter t: For>x Pop Jump>t x: Const=1 Const=1 Return
module 1 Const=1 FalseKeep>x Const=1 x: Return
module 3 Const=1 FalseKeep>x Const=1 x: Const=1 Const=1 Return
module 2 Const=1 False>x Const=1 Return x: Const=1 Const=1 Return
module 2 Const=1 Case=0 False>x x: Return
module 2 Import=a From=b Pop Return
module 1 Try>h BlockEnd Const=1 Return h: Reraise
module 2 Const=1 Try>h BlockEnd Return h: Reraise
module 2 Try>h BlockEnd Const=1 Return h: Load=a Match>n n: Reraise
module 1 Fin>f BlockEnd f: Const=1 Return
module 3 Fin>f BlockEnd f: Const=1 Const=1 Const=1 Again Return
module 1 Const=1 With>z Pop BlockEnd z: Const=1 Return
module 4 Const=1 Const=1 Const=1 Const=1 With>z Pop BlockEnd z: Return
module 3 Const=1 With>z Const=1 Const=1 Pop Pop Pop BlockEnd z: Const=1 Return
module 2 Loop>z Const=1 Const=1 Break z: Const=1 Return
module 5 Loop>z Const=1 Const=1 Break z: Const=1 Const=1 Const=1 Const=1 Const=1 Return
module 4 Const=1 Loop>z Const=1 Const=1 Const=1 Continue z: Return
module 2 Args Func=1 Args Class=2 Return
module 1 Const=1 Iter Comp=3 Return
def 1 Const=1 Return
gen 2 Const=1 Iter Const=1 YieldFrom Return
gen 1 Const=1 Yield Return
class 1 Const=1 Return
list 2 Pop Return
list 3 t: For>x Collect Jump>t x: Pop Return
set 3 t: For>x Collect Jump>t x: Pop Return
dict 4 t: For>x Dup Collect Jump>t x: Pop Return
lazy 1 Pop Const=1 Return
lazy 2 t: For>x Yield Pop Jump>t x: Pop Const=1 Return
list 5 t: For>x Iter s: For>y Dup Collect Pop Jump>s y: Pop Jump>t x: Pop Return
`

func TestP12Depths(t *testing.T) {
	for _, row := range strings.Split(strings.Trim(depthRows, "\n"), "\n") {
		kind, rest, _ := strings.Cut(row, " ")
		number, text, _ := strings.Cut(rest, " ")
		want, _ := strconv.ParseInt(number, 10, 64)
		parts := fullCode().Parts
		at := slices.Index(strings.Fields("module def class list set dict lazy gen"), kind)
		p := partOf(parts[at].Kind, parts[at].Form, parts[at].Gen, text)
		p.Params, p.Names = parts[at].Params, parts[at].Names
		parts[at] = p
		got := impl.Depths(impl.Code{Parts: parts})
		all := []int64{1, 1, 1, 2, 2, 2, 2, 1}
		all[at] = want
		if !slices.Equal(got, all) {
			t.Errorf("%s: %v, not %v", row, got, all)
		}
	}
}

func TestP12DepthsOfPrograms(t *testing.T) {
	for src, want := range map[string][]int64{
		"":                             {1},
		"a":                            {1},
		"a = b = c":                    {2},
		"a[b] += c":                    {4},
		"a[b][c] = d":                  {4},
		"a < b < c":                    {3},
		"f(a, *b, c=d)":                {3},
		"{a: b, **c}":                  {3},
		"a, (b, *c), d = e":            {4},
		"for a in b: c":                {2},
		"[a for a in b]":               {1, 3},
		"{a: b for a in b}":            {1, 4},
		"(a for a in b)":               {1, 2},
		"[a for a in b for c in a]":    {1, 4},
		"def f(): yield from g()":      {1, 2},
		"class A(B, c=d): pass":        {2, 1},
		"lambda a=b: (a, a, a)":        {2, 2},
		"try: a\nexcept B as e: c":     {2},
		"with a as b: c":               {1},
		"match a:\n case [b]: c":       {2},
		"from a import b, c":           {2},
		"f'{a}b{c:>4}'":                {3},
		"@a\n@b\ndef f(): pass":        {3, 1},
		"raise a from b":               {2},
		"def f():\n def g(): return 5": {1, 1, 1},
	} {
		if got := impl.Depths(codeOf(t, src)); !slices.Equal(got, want) {
			t.Errorf("%s: %v, not %v", src, got, want)
		}
	}
}

func TestP12DepthsByTheRules(t *testing.T) {
	t.Parallel()
	r := rand.New(rand.NewSource(31))
	good, bad := 0, 0
	check := func(c impl.Code) {
		want := []int64{}
		right := argsAreRight(c)
		for _, p := range c.Parts {
			depth := int64(0)
			if right {
				depth, right = depthRule(p)
			}
			want = append(want, depth)
		}
		if !right {
			want = nil
			bad++
		} else {
			good++
		}
		if got := impl.Depths(c); !slices.Equal(got, want) {
			t.Fatalf("%s\n %v, not %v", codeTold(c), got, want)
		}
	}
	for seed := range int64(80) {
		for _, src := range []string{foldProgram(seed), flowProgram(seed), drawnProgram(seed)} {
			tree, _ := impl.Parse(src)
			c, fault := impl.Compile(tree)
			if fault.Code != 0 {
				continue
			}
			check(c)
			check(impl.Improve(c))
			for range 15 {
				check(turned(r, c))
			}
		}
	}
	if good < 700 || bad < 700 {
		t.Error(good, bad)
	}
}

func TestP12DepthLimits(t *testing.T) {
	text := "Const=1 " + strings.Repeat("Unpack=9999 ", 10) + strings.Repeat("Dup ", 19) + "Return"
	if got := impl.Depths(moduleOf(text)); !slices.Equal(got, []int64{100000}) {
		t.Error("100000 values:", got)
	}
	text = "Const=1 " + strings.Repeat("Unpack=9999 ", 10) + strings.Repeat("Dup ", 20) + "Return"
	if got := impl.Depths(moduleOf(text)); len(got) != 0 {
		t.Error("100001 values:", got)
	}
	start := "Const=1 Unpack=5000 " + strings.Repeat("Stmt=1 ", 7998)
	if got := impl.Depths(moduleOf(start + "Join=2 Return")); !slices.Equal(got, []int64{5000}) {
		t.Error("40000000 values:", got)
	}
	if got := impl.Depths(moduleOf(start + "Join=1 Return")); len(got) != 0 {
		t.Error("40000001 values:", got)
	}
	c := moduleOf("Const=1 Return")
	f := moduleOf("Const=1 Dup Pop Return").Parts[0]
	f.Kind = impl.ScFunction
	want := []int64{1}
	for len(c.Parts) < impl.MaxCodeParts {
		c.Parts = append(c.Parts, f)
		want = append(want, 2)
	}
	if got := impl.Depths(c); !slices.Equal(got, want) {
		t.Error(fmt.Sprint(len(want), " parts: ", len(got)))
	}
}
