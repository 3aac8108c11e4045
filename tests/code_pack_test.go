package tests

import (
	"bytes"
	"encoding/binary"
	"fmt"
	"hash/adler32"
	"math"
	"math/big"
	"math/rand"
	"slices"
	"strings"
	"testing"

	"loop.example/g00009/impl"
)

// ruleWriter writes code as chapter 13 says, but for one thing: of the numbers the
// one at badNumber, of the texts the one at badText is written by put.
type ruleWriter struct {
	out       []byte
	numbers   int
	texts     int
	badNumber int
	badText   int
	put       func(number *big.Int, text string) []byte
}

func newRuleWriter() *ruleWriter { return &ruleWriter{badNumber: -1, badText: -1} }

// groupsOf are the groups of a number, the lowest first.
func groupsOf(n *big.Int) []byte {
	out := []byte{}
	rest := new(big.Int).Set(n)
	for {
		low := new(big.Int)
		rest.DivMod(rest, big.NewInt(128), low)
		if rest.Sign() == 0 {
			return append(out, byte(low.Int64()))
		}
		out = append(out, byte(low.Int64()+128))
	}
}

func (w *ruleWriter) number(n int64) {
	whole := new(big.Int).SetUint64(uint64(n))
	if w.numbers == w.badNumber {
		w.out = append(w.out, w.put(whole, "")...)
	} else {
		w.out = append(w.out, groupsOf(whole)...)
	}
	w.numbers++
}

func (w *ruleWriter) text(s string) {
	if w.texts == w.badText {
		w.out = append(w.out, w.put(nil, s)...)
	} else {
		w.number(int64(len(s)))
		w.out = append(w.out, s...)
	}
	w.texts++
}

func (w *ruleWriter) part(p impl.Part) {
	w.text(p.Name)
	w.number(p.Kind)
	w.number(p.Form)
	gen := map[bool]int64{true: 1}[p.Gen]
	w.number(gen)
	w.number(p.Line)
	w.number(int64(len(p.Params)))
	for _, x := range p.Params {
		w.text(x.Name)
		w.number(x.Op)
	}
	w.number(int64(len(p.Names)))
	for _, x := range p.Names {
		w.text(x.Name)
		w.number(x.How)
	}
	w.number(int64(len(p.Consts)))
	for _, x := range p.Consts {
		w.number(x.Kind)
		w.text(x.Text)
	}
	w.number(int64(len(p.Words)))
	for _, x := range p.Words {
		w.text(x)
	}
	w.number(int64(len(p.Pats)))
	for _, tree := range p.Pats {
		w.number(int64(len(tree.Nodes)))
		for _, n := range tree.Nodes {
			w.number(n.Kind)
			w.number(n.Op)
			w.text(n.Text)
			w.number(int64(len(n.Kids)))
			for _, kid := range n.Kids {
				w.number(kid)
			}
		}
	}
	w.number(int64(len(p.Instrs)))
	for _, in := range p.Instrs {
		w.number(in.Op)
		w.number(in.Arg)
	}
}

func (w *ruleWriter) code(c impl.Code) []byte {
	w.out = []byte("ADC1")
	w.number(int64(len(c.Parts)))
	for _, p := range c.Parts {
		w.part(p)
	}
	return summed(w.out)
}

func packedRule(c impl.Code) []byte { return newRuleWriter().code(c) }

// summed puts the sum behind bytes.
func summed(b []byte) []byte {
	return binary.LittleEndian.AppendUint32(slices.Clone(b), adler32.Checksum(b))
}

// summedAgain makes the sum of bytes right again.
func summedAgain(b []byte) []byte { return summed(b[:len(b)-4]) }

func wantRead(t *testing.T, what string, b []byte, want int64) {
	t.Helper()
	given := slices.Clone(b)
	c, code := impl.ReadCode(given)
	if code != want || want != impl.PackOk && len(c.Parts) > 0 {
		t.Errorf("%s: %d with %d parts, not %d", what, code, len(c.Parts), want)
	}
	if !bytes.Equal(given, b) {
		t.Errorf("%s: bytes were written into", what)
	}
}

// wantPacked packs code, and reads it back.
func wantPacked(t *testing.T, what string, c impl.Code) []byte {
	t.Helper()
	b, ok := impl.PackCode(c)
	if !ok || !bytes.Equal(b, packedRule(c)) {
		t.Fatalf("%s\n%s\n is packed as %v, %v", what, codeTold(c), b, ok)
	}
	d, code := impl.ReadCode(b)
	if code != impl.PackOk || !sameCode(c, d) {
		t.Fatalf("%s\n%s\n is read back as %d\n%s", what, codeTold(c), code, codeTold(d))
	}
	if again, ok := impl.PackCode(d); !ok || !bytes.Equal(again, b) {
		t.Fatalf("%s\n%s\n is packed again as %v, %v", what, codeTold(c), again, ok)
	}
	return b
}

// everyField has something in every field of a part, with numbers of several
// groups.
func everyField() impl.Code {
	value := []impl.Node{{Kind: impl.NInt, Line: 1, Text: "7"}, {Kind: impl.PValue, Line: 1, Kids: []int64{0}}, {Kind: impl.PStar, Line: 1, Text: "r"}, {Kind: impl.PSeq, Line: 1, Kids: []int64{1, 2}}}
	names := []impl.NameHow{{Name: "a", How: impl.HowLocal}, {Name: "é", How: impl.HowCell}}
	return impl.Code{Parts: []impl.Part{
		{Name: "m", Line: 300, Names: []impl.NameHow{{Name: "x", How: impl.HowGlobal}},
			Consts: []impl.Const{{}, {Kind: 1}, {Kind: 2}, {Kind: 3, Text: "-5"}, {Kind: 4, Text: "1.5"}, {Kind: 5, Text: "é"}},
			Words:  []string{"", "x"}, Pats: []impl.Tree{{Nodes: []impl.Node{{Kind: impl.PAny, Line: 1}}}, {Nodes: value}},
			Instrs: []impl.Instr{{Op: impl.IStmt, Arg: math.MaxInt64}, {Op: impl.IConst, Arg: 3}, {Op: impl.IReturn}}},
		{Name: "f", Kind: impl.ScFunction, Gen: true, Line: 127, Params: []impl.Param{{Name: "é", Op: 1}, {Name: "a", Op: 4}}, Names: names,
			Consts: []impl.Const{{}}, Instrs: []impl.Instr{{Op: impl.IConst}, {Op: impl.IReturn}}},
		{Name: "c", Kind: impl.ScComp, Form: impl.FormDict, Line: 128, Instrs: []impl.Instr{{Op: impl.IPop}, {Op: impl.IReturn}}},
	}}
}

// The bytes of everyField, written out by hand.
func TestP13BytesByHand(t *testing.T) {
	want := []byte{'A', 'D', 'C', '1', 3}
	put := func(list ...byte) { want = append(want, list...) }
	put(1, 'm', 0, 0, 0, 0xac, 2)
	put(0)
	put(1, 1, 'x', 4)
	put(6, 0, 0, 1, 0, 2, 0, 3, 2, '-', '5', 4, 3, '1', '.', '5', 5, 2, 0xc3, 0xa9)
	put(2, 0, 1, 'x')
	put(2, 1, impl.PAny, 0, 0, 0)
	put(4, impl.NInt, 0, 1, '7', 0, impl.PValue, 0, 0, 1, 0, impl.PStar, 0, 1, 'r', 0, impl.PSeq, 0, 0, 2, 1, 2)
	put(3, impl.IStmt, 255, 255, 255, 255, 255, 255, 255, 255, 127, impl.IConst, 3, impl.IReturn, 0)
	put(1, 'f', 1, 0, 1, 127)
	put(2, 2, 0xc3, 0xa9, 1, 1, 'a', 4)
	put(2, 1, 'a', 1, 2, 0xc3, 0xa9, 2)
	put(1, 0, 0, 0, 0)
	put(2, impl.IConst, 0, impl.IReturn, 0)
	put(1, 'c', 3, 3, 0, 0x80, 1)
	put(0, 0, 0, 0, 0)
	put(2, impl.IPop, 0, impl.IReturn, 0)
	a, s := uint32(1), uint32(0)
	for _, b := range want {
		a = (a + uint32(b)) % 65521
		s = (s + a) % 65521
	}
	sum := s*65536 + a
	put(byte(sum), byte(sum>>8), byte(sum>>16), byte(sum>>24))
	got := wantPacked(t, "every field", everyField())
	if !bytes.Equal(got, want) {
		t.Errorf("%v\n not %v", got, want)
	}
}

// The least code has a sum that can be reckoned by hand.
func TestP13LeastCode(t *testing.T) {
	c := impl.Code{Parts: []impl.Part{{Line: 1, Instrs: []impl.Instr{{Op: impl.IJump}}}}}
	b := wantPacked(t, "the least", c)
	want := []byte{'A', 'D', 'C', '1', 1, 0, 0, 0, 0, 1, 0, 0, 0, 0, 0, 1, impl.IJump, 0}
	if !bytes.Equal(b[:len(b)-4], want) {
		t.Error(b)
	}
	if sum := binary.LittleEndian.Uint32(b[len(b)-4:]); sum != 0x1093011e {
		t.Errorf("sum %#x", sum)
	}
}

// A sum of which both halves went beyond 65521 often.
func TestP13SumOfLongCode(t *testing.T) {
	c := moduleOf("Const=1 Return")
	for i := range 40 {
		c.Parts[0].Words = append(c.Parts[0].Words, strings.Repeat("\U0010ffff", impl.MaxText/4-i))
	}
	wantPacked(t, "long", c)
	for _, n := range []int{0, 1, 127, 128, 16383, 16384} {
		c.Parts[0].Words = []string{strings.Repeat("a", n)}
		wantPacked(t, fmt.Sprint("a word of ", n), c)
	}
}

// packCodes are codes of all kinds: by hand, of tests' programs, drawn, improved.
func packCodes(t *testing.T) []impl.Code {
	out := []impl.Code{fullCode(), everyField(), moduleOf("Const=1 Const=2 Binary=6 Return")}
	sources := []string{"", "match a:\n case [1, *b] | {2: b, **_}: a\n case K(x, y=z) as w: b\n case -1.5 | 'é' | a.b: pass\n", "def f(a, *b, c=1, **d): yield lambda: {x: y for x in a for y in b if c}\n"}
	for _, p := range allProgs() {
		sources = append(sources, modsOf(p.src)[0].Src)
	}
	for seed := range int64(60) {
		sources = append(sources, drawnProgram(seed), flowProgram(seed), foldProgram(seed))
	}
	for _, src := range sources {
		tree, _ := impl.Parse(src)
		if c, fault := impl.Compile(tree); fault.Code == impl.FaultNone {
			out = append(out, c, impl.Improve(c))
		}
	}
	if len(out) < 1000 {
		t.Fatal("too few codes:", len(out))
	}
	return out
}

func TestP13ReadBack(t *testing.T) {
	t.Parallel()
	for i, c := range packCodes(t) {
		wantPacked(t, fmt.Sprint("code ", i), c)
	}
}

func TestP13Refusals(t *testing.T) {
	good := wantPacked(t, "every field", everyField())
	for n := range 8 {
		wantRead(t, fmt.Sprint(n, " bytes"), good[:n], impl.PackShort)
		wantRead(t, fmt.Sprint(n, " other bytes"), bytes.Repeat([]byte{'x'}, n), impl.PackShort)
	}
	wantRead(t, "nothing", nil, impl.PackShort)
	wantRead(t, "eight bytes", []byte("ADC1\x00\x00\x00\x00"), impl.PackSum)
	wantRead(t, "eight bytes with their sum", summed([]byte("ADC1")), impl.PackForm)
	wantRead(t, "eight other bytes", []byte("ADC2\x00\x00\x00\x00"), impl.PackMagic)
	wantRead(t, "other bytes with their sum", summed([]byte("ADC2")), impl.PackMagic)
	for _, head := range []string{"ADC0", "adc1", "BDC1", "A\x00C1", "1CDA"} {
		b := append([]byte(head), good[4:]...)
		wantRead(t, head, b, impl.PackMagic)
		wantRead(t, head+" with its sum", summedAgain(b), impl.PackMagic)
	}
	wrong := slices.Clone(good)
	wrong[len(wrong)-1] ^= 1
	wantRead(t, "another sum", wrong, impl.PackSum)
	wrong[4] = 77
	wantRead(t, "another sum and another form", wrong, impl.PackSum)
	wantRead(t, "another form", summedAgain(wrong), impl.PackForm)
	high := slices.Clone(good)
	high[len(high)-1], high[len(high)-2], high[len(high)-3], high[len(high)-4] = high[len(high)-4], high[len(high)-3], high[len(high)-2], high[len(high)-1]
	wantRead(t, "the highest byte of the sum first", high, impl.PackSum)
	// A sum with what a half is modulo 65521 added is another one.
	plain := summed([]byte("ADC1\x00"))
	sum := binary.LittleEndian.Uint32(plain[5:])
	binary.LittleEndian.PutUint32(plain[5:], sum+65521)
	wantRead(t, "a sum that is not below its modulus", plain, impl.PackSum)
}

func TestP13OneByteTurned(t *testing.T) {
	t.Parallel()
	want := func(at int) int64 {
		if at < 4 {
			return impl.PackMagic
		}
		return impl.PackSum
	}
	for _, c := range []impl.Code{everyField(), fullCode(), codeOf(t, "match [1, 2]:\n case [1, *r]: print(r)\ntry: 1 / 0\nexcept ZeroDivisionError as e: print(e)\n")} {
		b, _ := impl.PackCode(c)
		for at := range b {
			was := b[at]
			for by := 1; by < 256; by++ {
				b[at] = was + byte(by)
				if d, code := impl.ReadCode(b); code != want(at) || len(d.Parts) > 0 {
					t.Fatalf("byte %d turned by %d: %d", at, by, code)
				}
			}
			b[at] = was
		}
	}
	r := rand.New(rand.NewSource(3))
	for _, c := range packCodes(t) {
		b, _ := impl.PackCode(c)
		for range 8 {
			at := r.Intn(len(b))
			was := b[at]
			b[at] += byte(1 + r.Intn(255))
			if _, code := impl.ReadCode(b); code != want(at) {
				t.Fatalf("byte %d turned: %d", at, code)
			}
			b[at] = was
		}
	}
}

// Each number of code by itself is written as another one would not be.
func TestP13Numbers(t *testing.T) {
	c := everyField()
	count := newRuleWriter()
	count.code(c)
	zero := func(n *big.Int) []byte {
		b := groupsOf(n)
		b[len(b)-1] += 128
		return append(b, 0)
	}
	two := func(n *big.Int) []byte {
		b := zero(n)
		b[len(b)-1] += 128
		return append(b, 0)
	}
	plus := func(n *big.Int, shift uint) []byte {
		return groupsOf(new(big.Int).Add(n, new(big.Int).Lsh(big.NewInt(1), shift)))
	}
	for k := range count.numbers {
		for what, put := range map[string]func(n *big.Int) []byte{
			"a group too many": zero, "two groups too many": two,
			"2^63 more":  func(n *big.Int) []byte { return plus(n, 63) },
			"2^64 more":  func(n *big.Int) []byte { return plus(n, 64) },
			"2^70 more":  func(n *big.Int) []byte { return plus(n, 70) },
			"2^700 more": func(n *big.Int) []byte { return plus(n, 700) },
			"never ends": func(*big.Int) []byte { return bytes.Repeat([]byte{255}, 3000) },
		} {
			w := newRuleWriter()
			w.badNumber = k
			w.put = func(n *big.Int, _ string) []byte { return put(n) }
			wantRead(t, fmt.Sprint("number ", k, ": ", what), w.code(c), impl.PackForm)
		}
	}
}

// Each text of code by itself is none, or longer than what is there.
func TestP13Texts(t *testing.T) {
	c := everyField()
	count := newRuleWriter()
	count.code(c)
	written := func(s string) []byte { return append(groupsOf(big.NewInt(int64(len(s)))), s...) }
	longer := func(s string, by int64) []byte { return append(groupsOf(big.NewInt(int64(len(s))+by)), s...) }
	for k := range count.texts {
		for what, put := range map[string]func(s string) []byte{
			"a byte that is none":    func(s string) []byte { return written(s + "\xff") },
			"a code point cut":       func(s string) []byte { return written(s + "\xc3") },
			"a surrogate":            func(s string) []byte { return written("\xed\xa0\x80") },
			"a form too long":        func(s string) []byte { return written("\xc0\x80") },
			"more than a text has":   func(s string) []byte { return written(strings.Repeat("0", impl.MaxText+1)) },
			"beyond the end":         func(s string) []byte { return longer(s, 10000) },
			"far beyond the end":     func(s string) []byte { return longer(s, math.MaxInt64/2) },
			"farthest":               func(s string) []byte { return groupsOf(big.NewInt(math.MaxInt64)) },
			"more than there can be": func(s string) []byte { return groupsOf(new(big.Int).SetUint64(math.MaxUint64)) },
		} {
			w := newRuleWriter()
			w.badText = k
			w.put = func(_ *big.Int, s string) []byte { return put(s) }
			wantRead(t, fmt.Sprint("text ", k, ": ", what), w.code(c), impl.PackForm)
		}
	}
}

func TestP13Lengths(t *testing.T) {
	good := packedRule(everyField())
	body := good[:len(good)-4]
	for n := 1; n <= 300; n++ {
		wantRead(t, fmt.Sprint(n, " bytes behind"), summed(append(slices.Clone(body), make([]byte, n)...)), impl.PackForm)
	}
	wantRead(t, "the sum twice", summed(good), impl.PackForm)
	wantRead(t, "all twice", summed(append(slices.Clone(body), body...)), impl.PackForm)
	for n := range len(body) {
		want := int64(impl.PackForm)
		if n < 4 {
			want = impl.PackShort
		}
		wantRead(t, fmt.Sprint("the first ", n), summed(body[:n]), want)
	}
	for n := range good {
		want := int64(impl.PackSum)
		if n < 8 {
			want = impl.PackShort
		}
		wantRead(t, fmt.Sprint("a beginning of ", n), good[:n], want)
	}
	many := append([]byte("ADC1"), groupsOf(big.NewInt(math.MaxInt64))...)
	wantRead(t, "very many parts", summed(many), impl.PackForm)
	wantRead(t, "no parts", summed([]byte("ADC1\x00")), impl.PackForm)
	for gen := int64(0); gen < 300; gen++ {
		w := newRuleWriter()
		// Name's length, Kind, Form behind the number of parts.
		w.badNumber = 4
		w.put = func(*big.Int, string) []byte { return groupsOf(big.NewInt(gen)) }
		b := w.code(moduleOf("Const=1 Return"))
		want := int64(impl.PackForm)
		if gen == 0 {
			want = impl.PackOk
		}
		wantRead(t, fmt.Sprint("gen ", gen), b, want)
		f := fullCode()
		f.Parts = append(f.Parts[:1:1], f.Parts[7])
		w = newRuleWriter()
		first := newRuleWriter()
		first.part(f.Parts[0])
		w.badNumber = 4 + first.numbers
		w.put = func(*big.Int, string) []byte { return groupsOf(big.NewInt(gen)) }
		want = impl.PackForm
		if gen < 2 {
			want = impl.PackOk
		}
		wantRead(t, fmt.Sprint("gen of a function ", gen), w.code(f), want)
	}
}

// Of drawn bytes, and of drawn changes with the sum made right, what is read is
// written as the same bytes.
func TestP13DrawnBytes(t *testing.T) {
	t.Parallel()
	r := rand.New(rand.NewSource(13))
	read := 0
	check := func(b []byte) {
		c, code := impl.ReadCode(b)
		if code == impl.PackOk {
			read++
			if again, ok := impl.PackCode(c); !ok || !bytes.Equal(again, b) {
				t.Fatalf("%v is read, and written as %v", b, again)
			}
			return
		}
		if len(c.Parts) > 0 || code < impl.PackShort || code > impl.PackForm {
			t.Fatalf("%v: %d", b, code)
		}
	}
	for range 3000 {
		b := make([]byte, r.Intn(60))
		r.Read(b)
		check(b)
		check(summed(append([]byte("ADC1"), b...)))
	}
	codes := packCodes(t)
	for range 20000 {
		b, _ := impl.PackCode(codes[r.Intn(min(len(codes), 400))])
		body := b[:len(b)-4]
		for range 1 + r.Intn(2) {
			at := 4 + r.Intn(len(body)-4)
			switch r.Intn(4) {
			case 0:
				body[at] = byte(r.Intn(256))
			case 1:
				body[at] += byte(r.Intn(3) - 1)
			case 2:
				body = slices.Delete(body, at, at+1)
			case 3:
				body = slices.Insert(body, at, byte(r.Intn(256)))
			}
		}
		check(summed(body))
	}
	if read < 500 {
		t.Error("too few were read:", read)
	}
}
