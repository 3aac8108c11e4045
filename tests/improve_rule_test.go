package tests

import (
	"fmt"
	"math/big"
	"slices"
	"strings"
	"testing"

	"loop.example/g00009/impl"
)

// moduleOf is code of one module with these steps.
func moduleOf(text string) impl.Code {
	p := assembled(stepsOf(text))
	p.Name, p.Line = "<module>", 1
	return impl.Code{Parts: []impl.Part{p}}
}

// instrsTold is what instructions do, with constants and words written out.
func instrsTold(p impl.Part) string {
	words := []string{}
	for _, in := range p.Instrs {
		arg := fmt.Sprint(in.Arg)
		switch instrName(in.Op) {
		case "Const":
			arg = fmt.Sprint(p.Consts[in.Arg])
		case "Load", "Store", "Unbind", "Key", "Attr", "SetAttr", "DelAttr", "Import", "From":
			arg = p.Words[in.Arg]
		}
		words = append(words, instrName(in.Op)+"="+arg)
	}
	return strings.Join(words, " ")
}

// wantBetter improves code of one module. Behind a ; stand the constants that are
// new.
func wantBetter(t *testing.T, before string, after string) {
	t.Helper()
	c := moduleOf(before)
	if !impl.CodeOk(c) {
		t.Fatalf("%s can't be run", before)
	}
	after, added, _ := strings.Cut(after, ";")
	consts := slices.Clone(c.Parts[0].Consts)
	for _, text := range strings.Fields(added) {
		consts = append(consts, constTold(text))
	}
	want := assembled(stepsOf(after))
	got := impl.Improve(c).Parts[0]
	if instrsTold(got) != instrsTold(want) || !slices.Equal(got.Consts, consts) {
		t.Errorf("%s\n becomes %s with %v\n not %s with %v", before, instrsTold(got), got.Consts, instrsTold(want), consts)
	}
	wantSlowly(t, c)
}

func wantBetterRows(t *testing.T, rows string) {
	t.Helper()
	for _, row := range strings.Split(strings.Trim(rows, "\n"), "\n") {
		before, after, ok := strings.Cut(row, " => ")
		if !ok {
			t.Fatal("no row:", row)
		}
		if strings.TrimSpace(after) == "-" {
			after = before
		}
		wantBetter(t, before, after)
	}
}

// Of - what was there stays.
const betterBinaries = `
Const=6 Const=3 Binary=1 Return => Const=7 Return ; 7
Const=6 Const=3 Binary=2 Return => Const=5 Return ; 5
Const=6 Const=3 Binary=3 Return => Const=2 Return ; 2
Const=6 Const=3 Binary=4 Return => Const=48 Return ; 48
Const=6 Const=2 Binary=5 Return => Const=1 Return ; 1
Const=6 Const=3 Binary=6 Return => Const=9 Return ; 9
Const=6 Const=3 Binary=7 Return => Const=3 Return
Const=6 Const=3 Binary=8 Return => Const=18 Return ; 18
Const=6 Const=3 Binary=9 Return => -
Const=-7 Const=2 Binary=10 Return => Const=-4 Return ; -4
Const=-7 Const=2 Binary=11 Return => Const=1 Return ; 1
Const=7 Const=-2 Binary=11 Return => Const=-1 Return ; -1
Const=2 Const=10 Binary=12 Return => Const=1024 Return ; 1024
Const=-6 Const=3 Binary=1 Return => Const=-5 Return ; -5
Const=6 Const=0 Binary=10 Return => -
Const=6 Const=0 Binary=11 Return => -
Const=0 Const=0 Binary=9 Return => -
Const=6 Const=-1 Binary=4 Return => -
Const=6 Const=-1 Binary=5 Return => -
Const=6 Const=-1 Binary=12 Return => -
Const=1 Const=-1 Binary=12 Return => -
Const=6 Const=0 Binary=4 Return => Const=6 Return
Const=6 Const=0 Binary=5 Return => Const=6 Return
Const=6 Const=0 Binary=12 Return => Const=1 Return ; 1
Const=0 Const=0 Binary=12 Return => Const=1 Return ; 1
Const=6 Const=9223372036854775807 Binary=5 Return => Const=0 Return ; 0
Const=-6 Const=9223372036854775807 Binary=5 Return => Const=-1 Return ; -1
Const=6 Const=9223372036854775808 Binary=5 Return => -
Const=0 Const=9223372036854775807 Binary=4 Return => Const=0 Return
Const=0 Const=9223372036854775808 Binary=4 Return => -
Const=1 Const=9223372036854775807 Binary=4 Return => -
Const=1 Const=9223372036854775807 Binary=12 Return => Const=1 Return
Const=-1 Const=9223372036854775807 Binary=12 Return => Const=-1 Return
Const=1 Const=9223372036854775808 Binary=12 Return => -
Const=2 Const=9223372036854775807 Binary=12 Return => -
Const=True Const=1 Binary=6 Return => -
Const=1 Const=True Binary=6 Return => -
Const=1.0 Const=1 Binary=6 Return => -
Const=1 Const=1.0 Binary=6 Return => -
Const='1' Const='1' Binary=6 Return => -
Const='a' Const=2 Binary=8 Return => -
Const=None Const=1 Binary=6 Return => -
Const=1 Load=a Binary=6 Return => -
Load=a Const=1 Binary=6 Return => -
Const=1 Const=2 Aug=6 Return => -
Const=1 Const=2 Compare=1 Return => -
Const=1 Const=2 Item Return => -
Load=a False>x Load=b Jump>y x: Const=1 Const=2 Binary=6 y: Return => Load=a False>x Load=b Jump>y x: Const=3 y: Return ; 3
Load=a False>x Load=b Jump>y x: Const=1 y: Const=2 Binary=6 Return => -
Load=a False>x Load=b Load=c Jump>y x: Const=1 Const=2 y: Binary=6 Return => -
Load=a FalseKeep>x Const=1 x: Const=2 Binary=6 Return => -
`

const betterUnaries = `
Const=5 Unary=1 Return => Const=5 Return
Const=5 Unary=2 Return => Const=-5 Return ; -5
Const=5 Unary=3 Return => Const=-6 Return ; -6
Const=0 Unary=2 Return => Const=0 Return
Const=-1 Unary=3 Return => Const=0 Return ; 0
Const=5 Unary=2 Unary=2 Return => Const=5 Return ; -5
Const=True Unary=2 Return => -
Const=1.5 Unary=2 Return => -
Const='5' Unary=1 Return => -
Const=None Unary=1 Return => -
Load=a Unary=2 Return => -
Load=a False>x Load=b Jump>y x: Const=1 y: Unary=2 Return => -
Load=a False>x Load=b Jump>y x: Const=1 Unary=2 y: Return => Load=a False>x Load=b Jump>y x: Const=-1 y: Return ; -1
Const=None Not Return => Const=True Return ; True
Const=False Not Return => Const=True Return ; True
Const=True Not Return => Const=False Return ; False
Const=0 Not Return => Const=True Return ; True
Const=-1 Not Return => Const=False Return ; False
Const=0.0 Not Return => Const=True Return ; True
Const=-0.0 Not Return => Const=True Return ; True
Const=5e-324 Not Return => Const=False Return ; False
Const=inf Not Return => Const=False Return ; False
Const='' Not Return => Const=True Return ; True
Const='0' Not Return => Const=False Return ; False
Const='' Not Not Return => Const=False Return ; True False
Load=a Not Return => -
Load=a False>x Load=b Jump>y x: Const=1 y: Not Return => -
Load=a False>x Load=b Jump>y x: Const=1 Not y: Return => Load=a False>x Load=b Jump>y x: Const=False y: Return ; False
`

const betterFalses = `
Load=c False>w Const=None False>x w: Load=a Return x: Load=b Return => Load=c False>w Jump>x w: Load=a Return x: Load=b Return
Load=c False>w Const=False False>x w: Load=a Return x: Load=b Return => Load=c False>w Jump>x w: Load=a Return x: Load=b Return
Load=c False>w Const=0 False>x w: Load=a Return x: Load=b Return => Load=c False>w Jump>x w: Load=a Return x: Load=b Return
Load=c False>w Const=-0.0 False>x w: Load=a Return x: Load=b Return => Load=c False>w Jump>x w: Load=a Return x: Load=b Return
Load=c False>w Const='' False>x w: Load=a Return x: Load=b Return => Load=c False>w Jump>x w: Load=a Return x: Load=b Return
Load=c False>x Const=1 False>x Load=a Return x: Load=b Return => Load=c False>x Load=a Return x: Load=b Return
Load=c False>x Const=True False>x Load=a Return x: Load=b Return => Load=c False>x Load=a Return x: Load=b Return
Load=c False>x Const='0' False>x Load=a Return x: Load=b Return => Load=c False>x Load=a Return x: Load=b Return
Load=c False>x Const=0.5 False>x Load=a Return x: Load=b Return => Load=c False>x Load=a Return x: Load=b Return
Const=None False>x Load=a Return x: Load=b Return => Load=b Return
Const=1 False>x Load=a Return x: Load=b Return => Load=a Return
Load=a False>x Load=b Jump>y x: Const=1 y: False>z Const=None Return z: Load=c Return => -
Load=a False>x Load=b Pop x: Const=1 False>z Load=b Return z: Load=c Return => Load=a False>x Load=b Pop x: Load=b Return
Load=a False>x Load=b Pop x: Const=0 False>z Load=b Return z: Load=c Return => Load=a False>z Load=b Pop z: Load=c Return
t: Const=0 False>t Const=None Return => t: Jump>t
t: Load=a Pop Const=0 False>t Const=None Return => t: Load=a Pop Jump>t
Const=1 FalseKeep>x Const=2 x: Return => -
Const=0 TrueKeep>x Const=2 x: Return => -
`

const betterPairs = `
Const=1 Pop Load=a Return => Load=a Return
Load=a Dup Pop Return => Load=a Return
Load=a Pop Load=a Return => -
Load=a Dup Const=1 Pop Pop Return => Load=a Return
Const=1 Dup Pop Pop Load=a Return => Load=a Return
Load=a False>x Load=b Jump>y x: Const=1 y: Pop Load=c Return => -
Load=a False>x Load=b Load=c Jump>y x: Load=b Dup y: Pop Return => -
Load=a False>x Load=b Pop x: Const=1 Pop Load=c Return => Load=a False>x Load=b Pop x: Load=c Return
Load=a False>x Const=1 Pop x: Load=c Return => Load=a False>x x: Load=c Return
Load=a Load=b Dup2 Pop Pop Pop Return => -
Const=1 Pop Const=2 Pop Const=3 Pop Load=a Return => Load=a Return
`

const betterJumps = `
Load=a Pop Jump>x x: Load=b Return => Load=a Pop Load=b Return
Jump>x x: Jump>y y: Load=b Return => Load=b Return
Load=a False>x Load=b Return x: Jump>y Load=c Return y: Load=d Return => Load=a False>y Load=b Return y: Load=d Return
Load=a False>x Load=b Return x: Jump>y v: Load=c Return y: Load=d False>v Load=e Return => Load=a False>y Load=b Return v: Load=c Return y: Load=d False>v Load=e Return
Load=a False>x Load=b Return x: Jump>y Load=c Return y: Jump>x => Load=a False>y Load=b Return y: Jump>y
Load=a False>x Load=b Return x: Jump>x => -
Load=a False>u Load=b False>v Load=c Return u: Jump>v v: Jump>w w: Jump>u => Load=a False>w Load=b False>w Load=c Return w: Jump>w
Load=a Pop Jump>t u: Load=b Return t: Load=c False>u Jump>t => Load=a Pop Jump>t u: Load=b Return t: Load=c False>u Jump>t
Load=a FalseKeep>x Load=b x: Jump>y y: Return => Load=a FalseKeep>y Load=b y: Return
Load=a FalseKeep>x Load=b Return x: Jump>y z: Pop Load=c Return y: Dup False>z Return => Load=a FalseKeep>x Load=b Return x: Jump>y z: Pop Load=c Return y: Dup False>z Return
Load=a Iter t: For>x Pop Jump>t x: Jump>y y: Pop Load=b Return => Load=a Iter t: For>y Pop Jump>t y: Pop Load=b Return
Load=a False>x u: Load=b Pop Jump>w x: Load=c False>y Jump>u y: Jump>z w: Load=d Return z: Jump>w => Load=a False>x u: Load=b Pop Jump>w x: Load=c False>w Jump>u w: Load=d Return
`

const betterEnds = `
Load=a Return Load=b Return => Load=a Return
Load=a Return Const=10 Const=20 Binary=6 Return => Load=a Return
Load=a Raise=1 Load=b Return => Load=a Raise=1
Raise=0 Pop Pop Again Reraise => Raise=0
Load=a Assert=1 Load=b Return => Load=a Assert=1
Loop>z t: Turn Break Load=a Jump>t z: Const=None Return => Loop>z Turn Break z: Const=None Return
Loop>z t: Turn Continue Load=a Jump>t z: Const=None Return => Loop>z Turn Continue z: Const=None Return
Try>h Load=a Pop BlockEnd Jump>y h: Reraise Load=b Pop y: Const=None Return => Try>h Load=a Pop BlockEnd Jump>y h: Reraise y: Const=None Return
Load=a Return t: Load=b Jump>t => -
Load=a Return u: Load=b Return Load=c Jump>u => Load=a Return
Load=a Return Jump>x Load=b x: Return => Load=a Return
Load=a Return Const=1 False>x Load=c x: Return => Load=a Return
Jump>x Const=1 Const=2 Binary=6 Return x: Load=a Return => Load=a Return
`

const betterRows = `
Const=2 Const=3 Const=4 Binary=8 Binary=6 Return => Const=14 Return ; 12 14
Const=1 Const=2 Binary=6 Const=3 Binary=6 Return => Const=6 Return ; 6
Const=10 Const=20 Binary=6 Store=a Const=1 Const=1 Binary=6 Return => Const=30 Store=a Const=2 Return ; 30 2
Const=1 Const=1 Binary=6 Store=a Const=10 Const=20 Binary=6 Return => Const=2 Store=a Const=30 Return ; 2 30
Const=5 Const=5 Binary=7 Not False>x Load=a Return x: Load=b Return => Load=a Return ; 0 True
Const=5 Unary=2 Const=5 Binary=6 False>x Load=a Return x: Load=b Return => Load=b Return ; -5 0
Load=c False>x Const=1 Jump>y x: Const=2 y: Pop Load=a Return => -
Load=c False>x Const=1 Pop Jump>y x: Const=2 Pop y: Load=a Return => Load=c False>y y: Load=a Return
Load=a False>x Jump>y x: Const=1 Const=2 Binary=7 False>y Load=b Return y: Load=c Return => Load=a False>x Jump>y x: Load=b Return y: Load=c Return ; -1
Const=1 Const=2 Binary=6 Pop Const=1 Const=2 Binary=6 Return => Const=3 Return ; 3
Const=1 Unary=2 Pop Const=1 Unary=2 Return => Const=-1 Return ; -1
Const=1 Load=a Binary=6 Const=2 Binary=6 Return => -
Const=2 Const=3 Const=4 Binary=9 Binary=6 Return => -
Const=6 Const=3 Binary=7 Const=0 Binary=10 Return => Const=3 Const=0 Binary=10 Return
Const=None False>x Load=a Pop Jump>y x: Load=b Pop y: Const=0 False>z Load=c Return z: Load=d Return => Load=b Pop Load=d Return
`

func TestP12FoldBinary(t *testing.T) { wantBetterRows(t, betterBinaries) }

func TestP12FoldUnary(t *testing.T) { wantBetterRows(t, betterUnaries) }

func TestP12FoldFalse(t *testing.T) { wantBetterRows(t, betterFalses) }

func TestP12DropPairs(t *testing.T) { wantBetterRows(t, betterPairs) }

func TestP12Jumps(t *testing.T) { wantBetterRows(t, betterJumps) }

func TestP12DropBehind(t *testing.T) { wantBetterRows(t, betterEnds) }

func TestP12RulesForOneAnother(t *testing.T) { wantBetterRows(t, betterRows) }

// Numbers of MaxLimbs limbs are reckoned; one more is not.
func TestP12FoldLimits(t *testing.T) {
	most := new(big.Int).Sub(new(big.Int).Lsh(big.NewInt(1), 32*impl.MaxLimbs), big.NewInt(1))
	less := new(big.Int).Sub(most, big.NewInt(1))
	least := new(big.Int).Neg(most)
	for _, row := range []string{
		"Const=LESS Const=1 Binary=6 Return => Const=MOST Return ; MOST",
		"Const=MOST Const=1 Binary=6 Return => -",
		"Const=LEAST Const=1 Binary=7 Return => -",
		"Const=MOST Const=1 Binary=8 Return => Const=MOST Return",
		"Const=MOST Const=2 Binary=8 Return => -",
		"Const=MOST Const=MOST Binary=10 Return => Const=1 Return ; 1",
		"Const=1 Const=4095 Binary=4 Const=MOST Binary=1 Return => Const=MOST Return ; POWER",
		"Const=1 Const=4096 Binary=4 Return => -",
		"Const=2 Const=4095 Binary=12 Const=0 Binary=8 Return => Const=0 Return ; POWER",
		"Const=2 Const=4096 Binary=12 Return => -",
		"Const=MOST Const=1 Binary=4 Return => -",
		"Const=MOST Unary=2 Return => Const=LEAST Return ; LEAST",
		"Const=MOST Unary=3 Return => -",
		"Const=LESS Unary=3 Return => Const=LEAST Return ; LEAST",
		"Const=LEAST Unary=3 Return => Const=LESS Return ; LESS",
		"Const=LEAST Unary=2 Return => Const=MOST Return ; MOST",
		"Const=LEAST Const=MOST Binary=2 Return => Const=-2 Return ; -2",
	} {
		row = strings.NewReplacer("LEAST", least.String(), "LESS", less.String(), "MOST", most.String(), "POWER", new(big.Int).Lsh(big.NewInt(1), 4095).String()).Replace(row)
		wantBetterRows(t, row)
	}
}

// Constants that stand there twice, or that no instruction needs, stay; of those
// that are there the first one is taken.
func TestP12ConstantsStay(t *testing.T) {
	five := impl.Const{Kind: impl.ConstInt, Text: "5"}
	p := impl.Part{Name: "<module>", Line: 1, Consts: []impl.Const{{Kind: impl.ConstText, Text: "5"}, five, {Kind: impl.ConstFloat, Text: "5.0"}, five, {Kind: impl.ConstTrue}},
		Words: []string{"unused", "", "unused"}, Instrs: []impl.Instr{{Op: impl.IConst, Arg: 3}, {Op: impl.IUnary, Arg: 1}, {Op: impl.IReturn}}}
	c := impl.Code{Parts: []impl.Part{p}}
	got := wantImproved(t, c).Parts[0]
	if !slices.Equal(got.Consts, p.Consts) || !slices.Equal(got.Words, p.Words) || got.Instrs[0] != (impl.Instr{Op: impl.IConst, Arg: 1}) {
		t.Error(listing(got))
	}
}

// What is compiled of a text, and improved.
func TestP12ImprovedTexts(t *testing.T) {
	for src, want := range map[string]string{
		"a = 1 + 2 * 3\nif not 0: b\nelse: c\n":  "Stmt=1 Const=7 Dup Store=a Pop Stmt=2 Stmt=2 Load=b Pop Const=None Return",
		"while 1: a\n":                           "Stmt=1 Loop>z t: Turn Stmt=1 Load=a Pop Jump>t z: Const=None Return",
		"while 0: a\n":                           "Stmt=1 Loop>z Turn BlockEnd z: Const=None Return",
		"1\n'a'\na\n":                            "Stmt=1 Stmt=2 Stmt=3 Load=a Pop Const=None Return",
		"a = -5 ** 2 % 7\n":                      "Stmt=1 Const=3 Dup Store=a Pop Const=None Return",
		"raise a\nb\n":                           "Stmt=1 Load=a Raise=1",
		"assert 1, a\n":                          "Stmt=1 Const=None Return",
		"assert 0, a\nb\n":                       "Stmt=1 Load=a Assert=1",
		"if a:\n  if b: c\n  else: d\nelse: e\n": "Stmt=1 Load=a False>x Stmt=2 Load=b False>u Stmt=2 Load=c Pop Jump>y u: Stmt=3 Load=d Pop Jump>y x: Stmt=4 Load=e Pop y: Const=None Return",
		"a if 1 else b":                          "Stmt=1 Load=a Pop Const=None Return",
		"a = 1 if b else 2":                      "Stmt=1 Load=b False>x Const=1 Jump>y x: Const=2 y: Dup Store=a Pop Const=None Return",
		"pass\n":                                 "Stmt=1 Const=None Return",
		"":                                       "Const=None Return",
	} {
		got := wantImproved(t, codeOf(t, src)).Parts[0]
		if told := instrsTold(assembled(stepsOf(want))); instrsTold(got) != told {
			t.Errorf("%s\n is %s\n not %s", src, instrsTold(got), told)
		}
	}
}
