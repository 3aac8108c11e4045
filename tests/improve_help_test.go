package tests

import (
	"math/big"
	"slices"
	"strings"
	"testing"

	"loop.example/g00009/impl"
)

// hasAim tells whether an instruction has a target.
func hasAim(op int64) bool {
	switch op {
	case impl.IJump, impl.IFalse, impl.IFalseKeep, impl.ITrueKeep, impl.IFor, impl.ILoop, impl.ITry, impl.IFin, impl.IWith, impl.IMatch:
		return true
	}
	return false
}

// slowImprover goes through a part from its beginning each time that a rule fitted,
// and moves all targets each time.
type slowImprover struct {
	p impl.Part
}

func (m *slowImprover) op(at int) string {
	if at >= len(m.p.Instrs) {
		return ""
	}
	return instrName(m.p.Instrs[at].Op)
}

func (m *slowImprover) aimed(at int) bool {
	return slices.ContainsFunc(m.p.Instrs, func(in impl.Instr) bool { return hasAim(in.Op) && in.Arg == int64(at) })
}

// take takes n instructions out.
func (m *slowImprover) take(at int, n int) {
	m.p.Instrs = slices.Delete(m.p.Instrs, at, at+n)
	for i, in := range m.p.Instrs {
		if !hasAim(in.Op) || in.Arg <= int64(at) {
			continue
		}
		m.p.Instrs[i].Arg = max(int64(at), in.Arg-int64(n))
	}
}

func (m *slowImprover) set(at int, c impl.Const) {
	m.p.Instrs[at] = impl.Instr{Op: impl.IConst, Arg: placeIn(&m.p.Consts, c)}
}

func (m *slowImprover) constant(at int) impl.Const { return m.p.Consts[m.p.Instrs[at].Arg] }

func (m *slowImprover) integer(at int) (*big.Int, bool) {
	c := m.constant(at)
	if c.Kind != impl.ConstInt {
		return nil, false
	}
	return new(big.Int).SetString(c.Text, 10)
}

func falseConst(c impl.Const) bool {
	switch c.Kind {
	case impl.ConstNone, impl.ConstFalse:
		return true
	case impl.ConstTrue:
		return false
	case impl.ConstFloat:
		return c.Text == "0.0" || c.Text == "-0.0"
	}
	return c.Text == "" || c.Kind == impl.ConstInt && c.Text == "0"
}

// fold reckons with the library's numbers.
func fold(op int64, x *big.Int, y *big.Int) (*big.Int, bool) {
	out := new(big.Int)
	zero := y.Sign() == 0
	switch op {
	case 1:
		out.Or(x, y)
	case 2:
		out.Xor(x, y)
	case 3:
		out.And(x, y)
	case 4, 5, 12:
		if !y.IsInt64() || y.Sign() < 0 {
			return nil, false
		}
		return foldCount(op, x, y.Int64())
	case 6:
		out.Add(x, y)
	case 7:
		out.Sub(x, y)
	case 8:
		out.Mul(x, y)
	case 10, 11:
		if zero {
			return nil, false
		}
		floor, rest := floored(x, y)
		out = floor
		if op == 11 {
			out = rest
		}
	default:
		return nil, false
	}
	return out, fitsLimbs(out)
}

func fitsLimbs(x *big.Int) bool { return x.BitLen() <= 32*impl.MaxLimbs }

func foldCount(op int64, x *big.Int, n int64) (*big.Int, bool) {
	const far = 5000
	out := new(big.Int)
	switch {
	case op == 5:
		out.Rsh(x, uint(min(n, far)))
	case x.Sign() == 0 && op == 4:
	case op == 4:
		out.Lsh(x, uint(min(n, far)))
	case n == 0:
		out.SetInt64(1)
	case x.CmpAbs(big.NewInt(1)) <= 0:
		// 0, 1 and -1 stay small.
		out.Exp(x, big.NewInt(2-n%2), nil)
	default:
		out.Exp(x, big.NewInt(min(n, far)), nil)
	}
	return out, fitsLimbs(out)
}

// floored is quotient and remainder, the quotient rounded down.
func floored(x *big.Int, y *big.Int) (*big.Int, *big.Int) {
	floor, rest := new(big.Int).QuoRem(x, y, new(big.Int))
	if rest.Sign()*y.Sign() < 0 {
		floor.Sub(floor, big.NewInt(1))
		rest.Add(rest, y)
	}
	return floor, rest
}

// wayEnds are the instructions behind which no way goes on.
var wayEnds = strings.Fields("Jump Return Break Continue Reraise Raise Assert")

// at does the first rule that fits at a place.
func (m *slowImprover) at(i int) bool {
	isConst := m.op(i) == "Const"
	ends := slices.Contains(wayEnds, m.op(i))
	if !isConst && !ends && m.op(i) != "Dup" && m.op(i) != "False" {
		return false
	}
	free := i+1 < len(m.p.Instrs) && !m.aimed(i+1)
	switch {
	case m.foldAt(i):
	case isConst && free && m.op(i+1) == "Not":
		kind := int64(impl.ConstFalse)
		if falseConst(m.constant(i)) {
			kind = impl.ConstTrue
		}
		m.set(i, impl.Const{Kind: kind})
		m.take(i+1, 1)
	case isConst && free && m.op(i+1) == "False":
		if falseConst(m.constant(i)) {
			m.p.Instrs[i] = impl.Instr{Op: impl.IJump, Arg: m.p.Instrs[i+1].Arg}
			m.take(i+1, 1)
		} else {
			m.take(i, 2)
		}
	case (isConst || m.op(i) == "Dup") && free && m.op(i+1) == "Pop":
		m.take(i, 2)
	case m.op(i) == "Jump" && m.p.Instrs[i].Arg == int64(i+1):
		m.take(i, 1)
	case m.shorter(i):
	case ends && free:
		m.take(i+1, 1)
	default:
		return false
	}
	return true
}

// foldAt does the first two rules.
func (m *slowImprover) foldAt(i int) bool {
	if m.op(i) != "Const" || m.aimed(i+1) {
		return false
	}
	x, ok := m.integer(i)
	if !ok {
		return false
	}
	if m.op(i+1) == "Const" && m.op(i+2) == "Binary" && !m.aimed(i+2) {
		y, ok := m.integer(i + 1)
		if !ok {
			return false
		}
		out, ok := fold(m.p.Instrs[i+2].Arg, x, y)
		if !ok {
			return false
		}
		m.set(i, impl.Const{Kind: impl.ConstInt, Text: out.String()})
		m.take(i+1, 2)
		return true
	}
	if m.op(i+1) != "Unary" {
		return false
	}
	out := new(big.Int).Set(x)
	switch m.p.Instrs[i+1].Arg {
	case 2:
		out.Neg(x)
	case 3:
		out.Not(x)
	}
	if !fitsLimbs(out) {
		return false
	}
	m.set(i, impl.Const{Kind: impl.ConstInt, Text: out.String()})
	m.take(i+1, 1)
	return true
}

func (m *slowImprover) shorter(i int) bool {
	if m.op(i) != "Jump" && m.op(i) != "False" {
		return false
	}
	at := m.p.Instrs[i].Arg
	for range m.p.Instrs {
		if m.op(int(at)) != "Jump" {
			break
		}
		at = m.p.Instrs[at].Arg
	}
	if m.op(int(at)) == "Jump" || at == m.p.Instrs[i].Arg {
		return false
	}
	m.p.Instrs[i].Arg = at
	return true
}

func slowlyImproved(p impl.Part) impl.Part {
	p.Instrs, p.Consts = slices.Clone(p.Instrs), slices.Clone(p.Consts)
	m := &slowImprover{p: p}
	for i := 0; i < len(m.p.Instrs); i++ {
		if m.at(i) {
			i = -1
		}
	}
	return m.p
}

// wantImproved holds Improve against chapter 12: what it answers can be run, is not
// longer, and is improved no further.
func wantImproved(t *testing.T, c impl.Code) impl.Code {
	t.Helper()
	d := impl.Improve(c)
	if !impl.CodeOk(d) || impl.Measure(d) > impl.Measure(c) {
		t.Fatalf("%s\n\n is improved to %s", codeTold(c), codeTold(d))
	}
	if again := impl.Improve(d); !sameCode(again, d) {
		t.Fatalf("%s\n\n is improved again to %s", codeTold(d), codeTold(again))
	}
	return d
}

// wantSlowly holds it against the slow way, too.
func wantSlowly(t *testing.T, c impl.Code) {
	t.Helper()
	d := wantImproved(t, c)
	for i, p := range c.Parts {
		if slow := slowlyImproved(p); !samePart(d.Parts[i], slow) {
			t.Fatalf("%s\n\n is improved to %s\n\n slowly %s", listing(p), listing(d.Parts[i]), listing(slow))
		}
	}
}
