package impl

import (
	"cmp"
	"math"
	"math/bits"
	"slices"
	"strings"
)

const MaxText = 16384
const MaxLimbs = 128
const MaxDigits = 5000

const (
	ROk = iota
	RArgs
	RZero
	RLarge
	RNeg
)

const (
	BitAnd = 1 + iota
	BitOr
	BitXor
)

const limbBits = 32
const maxBits = MaxLimbs * limbBits
const maxBase = 36
const digitSigns = "0123456789abcdefghijklmnopqrstuvwxyz"

type Big struct {
	Neg bool
	Mag []uint32
}

// limbs is an absolute value, the lowest limb first. Where a method's comment
// doesn't say otherwise, its answer is new memory without zeros on top and
// its receiver stays as it was, so answers can be handed out as they are.
type limbs []uint32

func BigOk(a Big) bool {
	n := len(a.Mag)
	if n == 0 {
		return !a.Neg
	}
	return n <= MaxLimbs && a.Mag[n-1] != 0
}

func BigOf(x int64) Big {
	size := uint64(x)
	if x < 0 {
		size = -size
	}
	return Big{Neg: x < 0, Mag: limbsOf(size)}
}

func BigInt(a Big) (int64, bool) {
	if !BigOk(a) || len(a.Mag) > 2 {
		return 0, false
	}
	m := limbs(a.Mag)
	size := uint64(m.at(1))<<limbBits | uint64(m.at(0))
	if a.Neg {
		// Both steps wrap, and so reach the least int64 too.
		size = -size
	}
	x := int64(size)
	if (x < 0) != a.Neg {
		return 0, false
	}
	return x, true
}

func BigRead(s string, base int64) (Big, bool) {
	if !baseOk(base) || len(s) > MaxDigits {
		return Big{}, false
	}
	digits, neg := strings.CutPrefix(s, "-")
	m, ok := readLimbs(digits, uint32(base))
	if !ok {
		return Big{}, false
	}
	a, code := signed(neg, m)
	return a, code == ROk
}

func BigText(a Big, base int64) string {
	if !BigOk(a) || !baseOk(base) {
		return ""
	}
	text := limbs(a.Mag).digits(uint32(base))
	if a.Neg {
		return "-" + text
	}
	return text
}

func BigCmp(a Big, b Big) int64 {
	if !BigOk(a) || !BigOk(b) {
		return 2
	}
	if a.Neg != b.Neg {
		if a.Neg {
			return -1
		}
		return 1
	}
	if a.Neg {
		a, b = b, a
	}
	return int64(limbs(a.Mag).compare(b.Mag))
}

func BigBits(a Big) int64 {
	if !BigOk(a) {
		return -1
	}
	return int64(limbs(a.Mag).bitLength())
}

func BigAdd(a Big, b Big) (Big, int64) {
	if !BigOk(a) || !BigOk(b) {
		return Big{}, RArgs
	}
	return a.plus(b)
}

func BigSub(a Big, b Big) (Big, int64) {
	if !BigOk(a) || !BigOk(b) {
		return Big{}, RArgs
	}
	return a.plus(Big{Neg: !b.Neg, Mag: b.Mag})
}

func BigMul(a Big, b Big) (Big, int64) {
	if !BigOk(a) || !BigOk(b) {
		return Big{}, RArgs
	}
	return signed(a.Neg != b.Neg, limbs(a.Mag).times(b.Mag))
}

func BigDivMod(a Big, b Big) (Big, Big, int64) {
	if !BigOk(a) || !BigOk(b) {
		return Big{}, Big{}, RArgs
	}
	if len(b.Mag) == 0 {
		return Big{}, Big{}, RZero
	}
	quotient, rest := limbs(a.Mag).dividedBy(b.Mag)
	if a.Neg != b.Neg && len(rest) > 0 {
		quotient = quotient.plus(limbs{1})
		rest = limbs(b.Mag).minus(rest)
	}
	// No code to look at: a quotient is never above a, nor a rest above b.
	q, _ := signed(a.Neg != b.Neg, quotient)
	r, _ := signed(b.Neg, rest)
	return q, r, ROk
}

func BigPow(a Big, n int64) (Big, int64) {
	if !BigOk(a) {
		return Big{}, RArgs
	}
	if n < 0 {
		return Big{}, RNeg
	}
	m := limbs(a.Mag)
	// Refused ahead of the work, as n may be far too great to go through with.
	if least := int64(m.bitLength() - 1); least > 0 && n > (maxBits-1)/least {
		return Big{}, RLarge
	}
	return signed(a.Neg && n%2 == 1, m.power(uint64(n)))
}

func BigShift(a Big, n int64) (Big, int64) {
	if !BigOk(a) {
		return Big{}, RArgs
	}
	if len(a.Mag) == 0 {
		return Big{}, ROk
	}
	if n >= maxBits {
		return Big{}, RLarge
	}
	m := limbs(a.Mag)
	if n >= 0 {
		return signed(a.Neg, m.movedUp(int(n)))
	}
	// Behind the greatest number's last bit a longer move changes nothing,
	// and the least int64 has no counterpart to move by.
	down := int(-max(n, -maxBits))
	if a.Neg {
		// By 1 less and 1 more, so that lost bits make it lower, not nearer to 0.
		return signed(true, m.minus(limbs{1}).movedDown(down).plus(limbs{1}))
	}
	return signed(false, m.movedDown(down))
}

func BigBit(op int64, a Big, b Big) (Big, int64) {
	if !BigOk(a) || !BigOk(b) || op < BitAnd || op > BitXor {
		return Big{}, RArgs
	}
	// One limb more than the longer one has, for the signs alone.
	n := max(len(a.Mag), len(b.Mag)) + 1
	x, y := a.twosComplement(n), b.twosComplement(n)
	for i := range x {
		x[i] = combined(op, x[i], y[i])
	}
	neg := x[n-1] != 0
	if neg {
		x.negate()
	}
	return signed(neg, x)
}

func baseOk(base int64) bool { return 2 <= base && base <= maxBase }

// signed makes the number of m, which it keeps, or refuses it as too large.
func signed(neg bool, m limbs) (Big, int64) {
	m = m.trimmed()
	if len(m) > MaxLimbs {
		return Big{}, RLarge
	}
	return Big{Neg: neg && len(m) > 0, Mag: m}, ROk
}

func (a Big) plus(b Big) (Big, int64) {
	x, y := limbs(a.Mag), limbs(b.Mag)
	if a.Neg == b.Neg {
		return signed(a.Neg, x.plus(y))
	}
	if x.compare(y) < 0 {
		return signed(b.Neg, y.minus(x))
	}
	return signed(a.Neg, x.minus(y))
}

// twosComplement has n limbs, zeros on top among them; n is above the
// number's own count of limbs.
func (a Big) twosComplement(n int) limbs {
	out := make(limbs, n)
	copy(out, a.Mag)
	if a.Neg {
		out.negate()
	}
	return out
}

// negate writes the two's complement of m into m itself.
func (m limbs) negate() {
	carry := uint32(1)
	for i, x := range m {
		m[i], carry = bits.Add32(^x, 0, carry)
	}
}

func combined(op int64, x uint32, y uint32) uint32 {
	switch op {
	case BitAnd:
		return x & y
	case BitOr:
		return x | y
	}
	return x ^ y
}

func limbsOf(x uint64) limbs {
	return limbs{uint32(x), uint32(x >> limbBits)}.trimmed()
}

// trimmed shares m's memory: it is for what was made anew.
func (m limbs) trimmed() limbs {
	n := len(m)
	for n > 0 && m[n-1] == 0 {
		n--
	}
	if n == 0 {
		return nil
	}
	return m[:n]
}

func (m limbs) copied() limbs { return append(limbs(nil), m...) }

func (m limbs) at(i int) uint32 {
	if i < len(m) {
		return m[i]
	}
	return 0
}

func (m limbs) bitLength() int {
	n := len(m)
	if n == 0 {
		return 0
	}
	return n*limbBits - bits.LeadingZeros32(m[n-1])
}

func (m limbs) compare(o limbs) int {
	if len(m) != len(o) {
		return cmp.Compare(len(m), len(o))
	}
	for i := len(m) - 1; i >= 0; i-- {
		if m[i] != o[i] {
			return cmp.Compare(m[i], o[i])
		}
	}
	return 0
}

func (m limbs) plus(o limbs) limbs {
	n := max(len(m), len(o))
	sum := make(limbs, n+1)
	for i := range n {
		sum[i], sum[i+1] = bits.Add32(m.at(i), o.at(i), sum[i])
	}
	return sum.trimmed()
}

// minus wants an o that is not above m.
func (m limbs) minus(o limbs) limbs {
	rest := make(limbs, len(m))
	borrow := uint32(0)
	for i, x := range m {
		rest[i], borrow = bits.Sub32(x, o.at(i), borrow)
	}
	return rest.trimmed()
}

func (m limbs) times(o limbs) limbs {
	product := make(limbs, len(m)+len(o))
	for i, x := range m {
		carry := uint32(0)
		for j, y := range o {
			high, low := timesAdd(x, y, product[i+j], carry)
			product[i+j], carry = low, high
		}
		product[i+len(o)] = carry
	}
	return product.trimmed()
}

// timesAdd answers the high and the low limb of x times y plus both others,
// which two limbs always hold.
func timesAdd(x uint32, y uint32, c uint32, d uint32) (uint32, uint32) {
	wide := uint64(x)*uint64(y) + uint64(c) + uint64(d)
	return uint32(wide >> limbBits), uint32(wide)
}

// timesPlus answers m times x plus c.
func (m limbs) timesPlus(x uint32, c uint32) limbs {
	out := make(limbs, len(m)+1)
	for i, y := range m {
		c, out[i] = timesAdd(x, y, c, 0)
	}
	out[len(m)] = c
	return out.trimmed()
}

func (m limbs) power(n uint64) limbs {
	out := limbs{1}
	// From the highest bit down, so that nothing on the way is above the end.
	for i := bits.Len64(n) - 1; i >= 0; i-- {
		out = out.times(out)
		if n>>i&1 == 1 {
			out = out.times(m)
		}
	}
	return out
}

func (m limbs) movedUp(n int) limbs {
	whole, part := n/limbBits, n%limbBits
	out := make(limbs, whole+len(m)+1)
	for i, x := range m {
		wide := uint64(x) << part
		out[whole+i] |= uint32(wide)
		out[whole+i+1] = uint32(wide >> limbBits)
	}
	return out.trimmed()
}

// movedDown drops the bits below bit n.
func (m limbs) movedDown(n int) limbs {
	whole, part := n/limbBits, n%limbBits
	if whole >= len(m) {
		return nil
	}
	out := make(limbs, len(m)-whole)
	for i := range out {
		wide := uint64(m.at(whole+i+1))<<limbBits | uint64(m[whole+i])
		out[i] = uint32(wide >> part)
	}
	return out.trimmed()
}

// dividedBy answers quotient and rest; o is not 0.
func (m limbs) dividedBy(o limbs) (limbs, limbs) {
	if m.compare(o) < 0 {
		return nil, m.copied()
	}
	if len(o) == 1 {
		quotient, rest := m.dividedByLimb(o[0])
		return quotient, limbsOf(uint64(rest))
	}
	return m.longDividedBy(o)
}

func (m limbs) dividedByLimb(x uint32) (limbs, uint32) {
	out := make(limbs, len(m))
	rest := uint32(0)
	for i := len(m) - 1; i >= 0; i-- {
		out[i], rest = bits.Div32(rest, m[i], x)
	}
	return out.trimmed(), rest
}

// longDividedBy wants an o of at least two limbs that is not above m. Both are
// moved up until o's highest bit is set: a guess from the highest limbs is
// then hardly ever wrong.
func (m limbs) longDividedBy(o limbs) (limbs, limbs) {
	room := bits.LeadingZeros32(o[len(o)-1])
	divisor := o.movedUp(room)
	rest := make(limbs, len(m)+1)
	copy(rest, m.movedUp(room))
	quotient := make(limbs, len(m)-len(o)+1)
	for i := len(quotient) - 1; i >= 0; i-- {
		quotient[i] = rest[i : i+len(o)+1].takeMost(divisor)
	}
	return quotient.trimmed(), rest.trimmed().movedDown(room)
}

// takeMost takes o from m, in m itself, as often as it goes, and answers how
// often. m has one limb more than o and is below o times 2 to the 32.
func (m limbs) takeMost(o limbs) uint32 {
	n := len(o)
	often := guessLimb(m[n-2:], o[n-2:])
	if m.takeTimes(o, often) {
		return often
	}
	often--
	m.giveBack(o)
	return often
}

// guessLimb divides the three limbs of m by the two of o: with what stands
// below them in mind, the guess is right or one too great.
func guessLimb(m limbs, o limbs) uint32 {
	high := uint64(m[2])<<limbBits | uint64(m[1])
	top, next := uint64(o[1]), uint64(o[0])
	guess, rest := high/top, high%top
	for guess > math.MaxUint32 || guess*next > rest<<limbBits|uint64(m[0]) {
		guess--
		rest += top
		if rest > math.MaxUint32 {
			break
		}
	}
	return uint32(guess)
}

// takeTimes writes m less o times x into m itself, and tells whether that was
// not below 0.
func (m limbs) takeTimes(o limbs, x uint32) bool {
	carry, borrow := uint32(0), uint32(0)
	for i, y := range o {
		high, low := timesAdd(x, y, carry, 0)
		m[i], borrow = bits.Sub32(m[i], low, borrow)
		carry = high
	}
	n := len(o)
	m[n], borrow = bits.Sub32(m[n], carry, borrow)
	return borrow == 0
}

// giveBack adds o to m, in m itself; the sum wraps back from below 0.
func (m limbs) giveBack(o limbs) {
	carry := uint32(0)
	for i := range m {
		m[i], carry = bits.Add32(m[i], o.at(i), carry)
	}
}

// limbOfDigits answers the greatest power of base that a limb holds, and of
// how many digits it is.
func limbOfDigits(base uint32) (uint32, int) {
	unit, width := base, 1
	for unit <= math.MaxUint32/base {
		unit *= base
		width++
	}
	return unit, width
}

// readLimbs goes by the digits that a limb holds together, as each step
// passes through the whole number.
func readLimbs(s string, base uint32) (limbs, bool) {
	if s == "" {
		return nil, false
	}
	_, width := limbOfDigits(base)
	var m limbs
	for part := range slices.Chunk([]byte(s), width) {
		unit, value := uint32(1), uint32(0)
		for _, c := range part {
			digit := strings.IndexByte(digitSigns, c)
			if digit < 0 || digit >= int(base) {
				return nil, false
			}
			unit *= base
			value = value*base + uint32(digit)
		}
		m = m.timesPlus(unit, value)
	}
	return m, true
}

func (m limbs) digits(base uint32) string {
	unit, width := limbOfDigits(base)
	var out []byte
	for len(m) > 0 {
		var part uint32
		m, part = m.dividedByLimb(unit)
		for range width {
			out = append(out, digitSigns[part%base])
			part /= base
		}
	}
	slices.Reverse(out)
	text := strings.TrimLeft(string(out), "0")
	if text == "" {
		return "0"
	}
	return text
}
