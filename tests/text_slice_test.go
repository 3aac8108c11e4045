package tests

import (
	"math"
	"slices"
	"strings"
	"testing"

	"loop.example/g00009/impl"
)

func at(n int64) impl.Bound { return impl.Bound{Has: true, At: n} }

// sliceRule finds the places by going through all of them one by one.
func sliceRule(n int64, lo impl.Bound, hi impl.Bound, step impl.Bound) []int64 {
	back := step.Has && step.At < 0
	least, most, first, last := int64(0), n, int64(0), n
	if back {
		least, most, first, last = -1, n-1, n-1, -1
	}
	from, to := sliceBound(lo, n, least, most, first), sliceBound(hi, n, least, most, last)
	stride := uint64(1)
	if step.Has {
		stride = uint64(step.At)
	}
	var out []int64
	if back {
		for i := from; i > to; i-- {
			if uint64(from-i)%-stride == 0 {
				out = append(out, i)
			}
		}
		return out
	}
	for i := from; i < to; i++ {
		if uint64(i-from)%stride == 0 {
			out = append(out, i)
		}
	}
	return out
}

func sliceBound(b impl.Bound, n int64, least int64, most int64, absent int64) int64 {
	switch {
	case !b.Has:
		return absent
	case b.At >= 0:
		return min(b.At, most)
	case b.At+n < least:
		return least
	}
	return b.At + n
}

// bounds are none, none with a number in it, and all that are next to an end.
func bounds(n int64) []impl.Bound {
	out := []impl.Bound{{}, {At: 1}, {At: -1}}
	for _, x := range []int64{math.MinInt64, math.MinInt64 + 1, -2*n - 1, -n - 2, -n - 1, -n, 1 - n, -2, -1, 0, 1, 2, n / 2, n - 1, n, n + 1, n + 2, 2*n + 1, math.MaxInt64 - 1, math.MaxInt64} {
		out = append(out, at(x))
	}
	return out
}

func steps(n int64) []impl.Bound {
	out := []impl.Bound{{}, {At: 5}, {At: -1}}
	for _, x := range []int64{1, -1, 2, -2, 3, -3, n - 1, 1 - n, n, -n, n + 1, -n - 1, math.MaxInt64, math.MaxInt64 - 1, math.MinInt64, math.MinInt64 + 1} {
		if x != 0 {
			out = append(out, at(x))
		}
	}
	return out
}

func checkSlice(t *testing.T, n int64, lo impl.Bound, hi impl.Bound, step impl.Bound) {
	t.Helper()
	got, code := impl.SliceList(n, lo, hi, step)
	if want := sliceRule(n, lo, hi, step); code != impl.ROk || !slices.Equal(got, want) {
		t.Errorf("slice of %d, %v %v %v: %d places, code %d; wanted %d", n, lo, hi, step, len(got), code, len(want))
	}
	seen := map[int64]bool{}
	for _, place := range got {
		if place < 0 || place >= n || seen[place] {
			t.Fatalf("slice of %d, %v %v %v: place %d", n, lo, hi, step, place)
		}
		seen[place] = true
	}
}

func TestP3SlicePlaces(t *testing.T) {
	for _, n := range []int64{0, 1, 2, 3, 5, 8} {
		for _, lo := range bounds(n) {
			for _, hi := range bounds(n) {
				for _, step := range steps(n) {
					checkSlice(t, n, lo, hi, step)
				}
			}
		}
	}
}

func TestP3SlicePlacesOfTheMost(t *testing.T) {
	n := int64(impl.MaxText)
	for _, lo := range bounds(n) {
		for _, hi := range bounds(n) {
			for _, step := range []int64{n / 3, -n / 3, n - 1, 1 - n, n, -n, n + 1, -n - 1, math.MaxInt64, math.MinInt64} {
				checkSlice(t, n, lo, hi, at(step))
			}
		}
		for _, step := range steps(n) {
			checkSlice(t, n, lo, impl.Bound{}, step)
			checkSlice(t, n, impl.Bound{}, lo, step)
		}
	}
}

func TestP3SliceByHand(t *testing.T) {
	no := impl.Bound{}
	for _, c := range []struct {
		n            int64
		lo, hi, step impl.Bound
		want         []int64
	}{
		{5, no, no, no, []int64{0, 1, 2, 3, 4}},
		{5, at(1), at(4), at(2), []int64{1, 3}},
		{5, at(-2), no, no, []int64{3, 4}},
		{5, no, at(-2), no, []int64{0, 1, 2}},
		{5, at(-6), at(6), no, []int64{0, 1, 2, 3, 4}},
		{5, at(3), at(1), no, nil},
		{5, no, no, at(-1), []int64{4, 3, 2, 1, 0}},
		{5, at(3), at(0), at(-1), []int64{3, 2, 1}},
		{5, at(3), at(-1), at(-1), nil},
		{5, at(3), at(-6), at(-1), []int64{3, 2, 1, 0}},
		{5, at(9), at(1), at(-2), []int64{4, 2}},
		{5, at(-6), no, at(-1), nil},
		{5, at(5), no, no, nil},
		{5, no, no, at(math.MaxInt64), []int64{0}},
		{5, no, no, at(math.MinInt64), []int64{4}},
		{5, at(2), no, at(math.MaxInt64), []int64{2}},
		{0, no, no, no, nil},
		{0, no, no, at(-1), nil},
		{1, no, no, at(-1), []int64{0}},
		{1, at(0), at(1), at(7), []int64{0}},
	} {
		if got, code := impl.SliceList(c.n, c.lo, c.hi, c.step); code != impl.ROk || !slices.Equal(got, c.want) {
			t.Errorf("slice of %d, %v %v %v: %v, code %d; wanted %v", c.n, c.lo, c.hi, c.step, got, code, c.want)
		}
	}
}

func TestP3SliceRefused(t *testing.T) {
	for _, n := range []int64{math.MinInt64, -farAbove, -2, -1, impl.MaxText + 1, impl.MaxText + 2, farAbove, math.MaxInt64} {
		for _, b := range bounds(3) {
			for _, step := range append(steps(3), at(0)) {
				if got, code := impl.SliceList(n, b, impl.Bound{}, step); len(got) > 0 || code != impl.RArgs {
					t.Errorf("slice of %d, %v, step %v: %v, code %d", n, b, step, got, code)
				}
			}
		}
	}
	for _, n := range []int64{0, 1, 5, impl.MaxText} {
		for _, b := range bounds(n) {
			if got, code := impl.SliceList(n, b, b, at(0)); len(got) > 0 || code != impl.RZero {
				t.Errorf("slice of %d, %v, step 0: %v, code %d", n, b, got, code)
			}
		}
	}
}

// farAbove is far above all limits.
const farAbove = 1 << 40

func TestP3CutTakesTheSlice(t *testing.T) {
	for _, s := range append(someTexts(71, 60, 9, "abé日😀\ufffd\U0010ffff"), "", "a", fourBytes) {
		points, _ := decoded(s)
		n := int64(len(points))
		for _, lo := range bounds(n) {
			for _, hi := range bounds(n) {
				for _, step := range steps(n) {
					want := ""
					for _, place := range sliceRule(n, lo, hi, step) {
						want += string(points[place])
					}
					got, code := impl.TextCut(s, lo, hi, step)
					wantText(t, got, code, want, "cut", s, lo, hi, step)
				}
			}
		}
	}
}

func TestP3CutByHand(t *testing.T) {
	no := impl.Bound{}
	for _, c := range []struct {
		s            string
		lo, hi, step impl.Bound
		want         string
	}{
		{"aé日😀", no, no, no, "aé日😀"},
		{"aé日😀", no, no, at(-1), "😀日éa"},
		{"aé日😀", at(1), at(3), no, "é日"},
		{"aé日😀", at(-1), no, no, "😀"},
		{"aé日😀", no, at(-1), no, "aé日"},
		{"aé日😀", no, no, at(2), "a日"},
		{"aé日😀", no, no, at(-3), "😀a"},
		{"a" + badMark + "b", at(1), at(2), no, badMark},
		{"", no, no, at(-1), ""},
		{"abc", at(math.MinInt64), at(math.MaxInt64), at(math.MaxInt64), "a"},
	} {
		got, code := impl.TextCut(c.s, c.lo, c.hi, c.step)
		wantText(t, got, code, c.want, c.s, c.lo, c.hi, c.step)
	}
	most := strings.Repeat("ab", impl.MaxText/2)
	got, code := impl.TextCut(most, no, no, at(-1))
	wantText(t, got, code, strings.Repeat("ba", impl.MaxText/2), "the longest, backward")
}

func TestP3CutRefused(t *testing.T) {
	no := impl.Bound{}
	for _, s := range noTexts() {
		for _, step := range []impl.Bound{no, at(1), at(-1), at(0)} {
			got, code := impl.TextCut(s, no, no, step)
			wantNoText(t, got, code, impl.RArgs, "cut", s, step)
		}
	}
	for _, s := range edgeTexts() {
		got, code := impl.TextCut(s, at(0), at(1), at(0))
		wantNoText(t, got, code, impl.RZero, "cut with step 0", s)
	}
}
