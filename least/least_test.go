package least_test

import (
	"fmt"
	"math"
	"slices"
	"testing"

	"fourinhand/api"
	"fourinhand/least"
)

const (
	last    = 1 << 60 // the greatest time, and the greatest number
	longest = 1 << 40 // the greatest Span
	most    = 100     // how many points there are at most
)

// points returns the points of which the times and the numbers are given: At and N of the first one, of the second one, and so on.
func points(numbers ...int) []api.Point {
	var l []api.Point
	for i := 0; i < len(numbers); i += 2 {
		l = append(l, api.Point{At: numbers[i], N: numbers[i+1]})
	}
	return l
}

// window returns a windowed minimum with the points of which the times and the numbers are given.
func window(span, high int, numbers ...int) api.Least {
	return api.Least{Span: span, L: points(numbers...), High: high}
}

// stairs returns a windowed minimum with n points: at and number at first, both one more from point to point.
func stairs(span, high, n, at, number int) api.Least {
	l := api.Least{Span: span, High: high}
	for i := range n {
		l.L = append(l.L, api.Point{At: at + i, N: number + i})
	}
	return l
}

// same reports whether two windowed minimums have the same fields.
func same(a, b api.Least) bool {
	return a.Span == b.Span && a.High == b.High && slices.Equal(a.L, b.L)
}

// isValid reports whether the document calls l valid.
func isValid(l api.Least) bool {
	valid := l.Span >= 1 && l.Span <= longest && len(l.L) <= most && l.High >= 0 && l.High <= 7
	for i, p := range l.L {
		valid = valid && p.At >= 0 && p.At <= last && p.N >= 0 && p.N <= last
		if i > 0 {
			valid = valid && p.At >= l.L[i-1].At && p.N > l.L[i-1].N
		}
	}
	return valid
}

// lowest returns what the document says Of is, of a valid windowed minimum and a time in range.
func lowest(l api.Least, at int) (int, bool) {
	i := slices.IndexFunc(l.L, func(p api.Point) bool { return at-p.At <= l.Span })
	if i < 0 {
		return 0, false
	}
	return l.L[i].N, true
}

// after returns what the document says Met is, of a valid windowed minimum and numbers that it accepts.
func after(l api.Least, at, n int) (api.Least, bool) {
	if low, is := lowest(l, at); is && n > low+low {
		l.High++
	} else {
		l.High = 0
	}
	if l.High == 8 {
		return window(l.Span, 0, at, n), true
	}
	l.L = slices.DeleteFunc(slices.Clone(l.L), func(p api.Point) bool { return at-p.At > l.Span || p.N >= n })
	if len(l.L) < most {
		l.L = append(l.L, api.Point{At: at, N: n})
	}
	return l, false
}

// expectMet checks the results of a Met that succeeds.
func expectMet(t *testing.T, why string, l api.Least, at, n int, want api.Least, anew bool) {
	t.Helper()
	got, is, e := least.Met(l, at, n)
	if e != api.OK || is != anew || !same(got, want) {
		t.Errorf("%s: %d at %d to %+v: %+v %t %d instead of %+v %t", why, n, at, l, got, is, e, want, anew)
	}
}

// expectArg checks that Met returns ErrArg and nothing else.
func expectArg(t *testing.T, why string, l api.Least, at, n int) {
	t.Helper()
	got, is, e := least.Met(l, at, n)
	if e != api.ErrArg || is || got.Span != 0 || got.High != 0 || len(got.L) != 0 {
		t.Errorf("%s: %d at %d: %+v %t %d instead of ErrArg", why, n, at, got, is, e)
	}
}

// expectOf checks that Of returns a number and true.
func expectOf(t *testing.T, why string, l api.Least, at, want int) {
	t.Helper()
	if n, is := least.Of(l, at); n != want || !is {
		t.Errorf("%s: at %d %d %t instead of %d", why, at, n, is, want)
	}
}

// expectNone checks that Of returns 0 and false.
func expectNone(t *testing.T, why string, l api.Least, at int) {
	t.Helper()
	if n, is := least.Of(l, at); n != 0 || is {
		t.Errorf("%s: at %d %d %t instead of none", why, at, n, is)
	}
}

// valid returns valid windowed minimums, among them those with the smallest and the greatest value of each field.
func valid() map[string]api.Least {
	return map[string]api.Least{
		"a Span of 1":                        {Span: 1},
		"a Span of 2^40":                     {Span: longest},
		"an empty list of points":            {Span: 10, L: []api.Point{}},
		"a High of 1":                        {Span: 10, High: 1},
		"a High of 7, without points":        {Span: 10, High: 7},
		"a High of 7, with a point":          window(10, 7, 5, 6),
		"one point":                          window(10, 0, 5, 6),
		"an At of 0":                         window(10, 0, 0, 6),
		"an N of 0":                          window(10, 0, 5, 0),
		"an At and an N of 0":                window(10, 0, 0, 0),
		"an At of 2^60":                      window(10, 0, last, 6),
		"an N of 2^60":                       window(10, 0, 5, last),
		"an At and an N of 2^60":             window(10, 7, last, last),
		"two points, one more each":          window(10, 0, 5, 6, 6, 7),
		"two points with the same At":        window(10, 0, 5, 6, 5, 7),
		"two points with an At of 0":         window(10, 0, 0, 6, 0, 7),
		"two points with an At of 2^60":      window(10, 0, last, 6, last, 7),
		"two points as far apart as can be":  window(longest, 7, 0, 0, last, last),
		"three points with the same At":      window(1, 3, 9, 1, 9, 2, 9, 3),
		"points of which few count together": window(1, 2, 1, 10, 100, 20, 10000, 30),
		"100 points":                         stairs(50, 0, 100, 1000, 1),
		"100 points that all count":          stairs(99, 7, 100, 0, 0),
		"100 points at the greatest time":    stairs(longest, 7, 100, last-99, last-99),
		"99 points":                          stairs(1000, 6, 99, 77, 88),
	}
}

// invalid returns windowed minimums that are not valid, and why they are that.
func invalid() map[string]api.Least {
	return map[string]api.Least{
		"the zero value":                  {},
		"a Span of 0":                     window(0, 0, 5, 6),
		"a Span of -1":                    window(-1, 0, 5, 6),
		"the least Span":                  window(math.MinInt, 0, 5, 6),
		"a Span of 2^40 + 1":              window(longest+1, 0, 5, 6),
		"the greatest Span":               window(math.MaxInt, 0, 5, 6),
		"a Span of 0, without points":     {Span: 0, High: 1},
		"a High of -1":                    window(10, -1, 5, 6),
		"the least High":                  window(10, math.MinInt, 5, 6),
		"a High of 8":                     window(10, 8, 5, 6),
		"the greatest High":               window(10, math.MaxInt, 5, 6),
		"a High of 8, without points":     {Span: 10, High: 8},
		"a High of -1, without points":    {Span: 10, High: -1},
		"101 points":                      stairs(10, 0, 101, 0, 0),
		"101 points that all count":       stairs(1000, 0, 101, 0, 0),
		"101 points at the greatest time": stairs(10, 0, 101, last-100, last-100),
		"1000 points":                     stairs(10, 0, 1000, 0, 0),
		"101 points that are all the zero value": {
			Span: 10, L: make([]api.Point, 101),
		},
		"an At of -1":                          window(10, 0, -1, 6),
		"the least At":                         window(10, 0, math.MinInt, 6),
		"an At of -1, and one of 0":            window(10, 0, -1, 6, 0, 7),
		"an At of 2^60 + 1":                    window(10, 0, last+1, 6),
		"the greatest At":                      window(10, 0, math.MaxInt, 6),
		"an At of 2^60 + 1 behind one of 2^60": window(10, 0, last, 6, last+1, 7),
		"an N of -1":                           window(10, 0, 5, -1),
		"the least N":                          window(10, 0, 5, math.MinInt),
		"an N of -1, and one of 0":             window(10, 0, 5, -1, 6, 0),
		"an N of 2^60 + 1":                     window(10, 0, 5, last+1),
		"the greatest N":                       window(10, 0, 5, math.MaxInt),
		"an N of 2^60 + 1 behind one of 2^60":  window(10, 0, 5, last, 6, last+1),
		"an At that decreases":                 window(10, 0, 5, 6, 4, 7),
		"an At that decreases to 0":            window(10, 0, 5, 6, 0, 7),
		"the last At decreases":                window(10, 0, 5, 6, 7, 7, 6, 8),
		"an At in the middle decreases":        window(10, 0, 5, 6, 4, 7, 9, 8),
		"an N that stays the same":             window(10, 0, 5, 6, 6, 6),
		"an N that decreases":                  window(10, 0, 5, 6, 6, 5),
		"an N that decreases to 0":             window(10, 0, 5, 6, 6, 0),
		"an N of 0 twice":                      window(10, 0, 5, 0, 6, 0),
		"the last N stays the same":            window(10, 0, 5, 6, 6, 7, 7, 7),
		"an N in the middle decreases":         window(10, 0, 5, 6, 6, 5, 7, 8),
		"the same point twice":                 window(10, 0, 5, 6, 5, 6),
		"the last one of 100 points decreases": {Span: 10, L: append(stairs(10, 0, 99, 50, 50).L, api.Point{At: 147, N: 200})},
		"the last N of 100 points is the same": {Span: 10, L: append(stairs(10, 0, 99, 50, 50).L, api.Point{At: 200, N: 148})},
		"each field as small as an int can be": window(math.MinInt, math.MinInt, math.MinInt, math.MinInt),
		"each field as great as an int can be": window(math.MaxInt, math.MaxInt, math.MaxInt, math.MaxInt),
	}
}

// dice returns a function that returns numbers from 0 on below n, which depend on the seed only.
func dice(seed int) func(n int) int {
	state := uint64(seed)*2862933555777941757 + 3037000493
	return func(n int) int {
		state = state*6364136223846793005 + 1442695040888963407
		return int(state>>20) % n
	}
}

// P9.1: May of valid windowed minimums, which Met and Of accept.
func TestValid(t *testing.T) {
	for why, l := range valid() {
		if !least.May(l) {
			t.Errorf("%s: not valid", why)
		}
		if _, _, e := least.Met(l, last, 3); e != api.OK {
			t.Errorf("%s: Met returns %d", why, e)
		}
		if _, is := least.Of(l, 0); is != (len(l.L) > 0) {
			t.Errorf("%s: Of returns %t", why, is)
		}
	}
}

// P9.1, P9.2: windowed minimums that are not valid: May, ErrArg of Met, and nothing from Of.
func TestInvalid(t *testing.T) {
	for why, l := range invalid() {
		if least.May(l) {
			t.Errorf("%s: valid", why)
		}
		for _, at := range []int{-1, 0, 5, 7, 200, last, last + 1, math.MaxInt} {
			expectNone(t, why, l, at)
			for _, n := range []int{-1, 0, 5, 1000, last, last + 1} {
				expectArg(t, why, l, at, n)
			}
		}
	}
}

// P9.1: all windowed minimums of up to two points with numbers at the edges of what they may be, by the definition.
func TestValidity(t *testing.T) {
	edges := []int{math.MinInt, -1, 0, 1, last - 1, last, last + 1, math.MaxInt}
	for _, span := range []int{math.MinInt, -longest, -1, 0, 1, 2, longest - 1, longest, longest + 1, last, math.MaxInt} {
		for _, high := range []int{math.MinInt, -8, -1, 0, 1, 6, 7, 8, 9, 1 << 32, math.MaxInt} {
			expectValidity(t, api.Least{Span: span, High: high})
			for _, at := range edges {
				for _, n := range edges {
					expectValidity(t, window(span, high, at, n))
				}
			}
		}
	}
	for _, a := range edges {
		for _, m := range edges {
			for _, at := range edges {
				for _, n := range edges {
					expectValidity(t, window(10, 7, a, m, at, n))
				}
			}
		}
	}
}

// expectValidity expects that May, Met and Of agree with the definition whether l is valid.
func expectValidity(t *testing.T, l api.Least) {
	t.Helper()
	if least.May(l) != isValid(l) {
		t.Errorf("%+v: May is %t", l, least.May(l))
	}
	if _, _, e := least.Met(l, last, 0); (e == api.OK) != isValid(l) || e != api.OK && e != api.ErrArg {
		t.Errorf("%+v: Met returns %d", l, e)
	}
	if _, is := least.Of(l, 0); is != (isValid(l) && len(l.L) > 0) {
		t.Errorf("%+v: Of returns %t", l, is)
	}
}

// P9.1: windowed minimums of each number of points up to more than 100.
func TestNumberOfPoints(t *testing.T) {
	for n := range 300 {
		if least.May(stairs(10, 0, n, 0, 0)) != (n <= 100) {
			t.Errorf("%d points", n)
		}
	}
}

// P9.1, P9.2: the document's example.
func TestExample(t *testing.T) {
	l, anew, e := least.Met(api.Least{Span: 10}, 0, 5)
	if e != api.OK || anew || !same(l, window(10, 0, 0, 5)) {
		t.Errorf("after 5: %+v %t %d", l, anew, e)
	}
	l, anew, e = least.Met(l, 4, 7)
	if e != api.OK || anew || !same(l, window(10, 0, 0, 5, 4, 7)) {
		t.Errorf("after 7: %+v %t %d", l, anew, e)
	}
	expectOf(t, "5", l, 10, 5)
	expectOf(t, "7", l, 11, 7)
}

// P9.1: Of is the N of the first point that counts.
func TestOf(t *testing.T) {
	l := window(10, 3, 20, 5, 24, 7, 24, 8, 30, 9)
	for _, c := range []struct{ at, want int }{
		{24, 5}, {29, 5}, {30, 5}, // the first one, exactly Span old at last
		{31, 7}, {34, 7}, // one more than that: the second one
		{35, 9}, {40, 9}, // the second and the third one are too old at the same time
		{20, 5}, {19, 5}, {0, 5}, // before the points, which count there too
	} {
		expectOf(t, "four points", l, c.at, c.want)
	}
	for _, at := range []int{41, 42, 1000, longest, last} {
		expectNone(t, "four points that are too old", l, at)
	}
	expectOf(t, "an N of 0", window(1, 0, 6, 0), 7, 0)
	expectNone(t, "an N of 0 that is too old", window(1, 0, 6, 0), 8)
	for _, at := range []int{0, 5, last} {
		expectNone(t, "no points", api.Least{Span: 10}, at)
		expectNone(t, "no points in an empty list", api.Least{Span: longest, L: []api.Point{}}, at)
	}
}

// P9.1: Of with the smallest and the greatest Span, times and numbers.
func TestOfEdges(t *testing.T) {
	expectOf(t, "a Span of 1", window(1, 0, 5, 6), 6, 6)
	expectNone(t, "a Span of 1", window(1, 0, 5, 6), 7)
	expectOf(t, "a Span of 2^40", window(longest, 0, 0, 6), longest, 6)
	expectNone(t, "a Span of 2^40", window(longest, 0, 0, 6), longest+1)
	expectOf(t, "the greatest numbers", window(longest, 7, last, last), last, last)
	expectOf(t, "the greatest numbers, long before", window(1, 7, last, last), 0, last)
	expectOf(t, "just Span old at the greatest time", window(longest, 0, last-longest, 6), last, 6)
	expectNone(t, "older than Span at the greatest time", window(longest, 0, last-longest-1, 6), last)
	expectOf(t, "the last one of 100 points", stairs(1, 0, 100, 0, 500), 100, 599)
	expectNone(t, "none of 100 points", stairs(1, 0, 100, 0, 500), 101)
	expectOf(t, "the middle one of 100 points", stairs(7, 0, 100, 0, 500), 57, 550)
	for why, l := range valid() {
		for _, at := range []int{-1, -longest, math.MinInt, last + 1, 2 * last, math.MaxInt} {
			expectNone(t, why, l, at)
		}
	}
}

// P9.1: Of valid windowed minimums of all kinds, by the definition.
func TestOfExact(t *testing.T) {
	for why, l := range valid() {
		ats := []int{0, 1, 2, last / 2, last - 1, last}
		for _, p := range l.L {
			ats = append(ats, p.At-1, p.At, p.At+1, p.At+l.Span-1, p.At+l.Span, p.At+l.Span+1)
		}
		for _, at := range ats {
			want, is := lowest(l, at)
			if at >= 0 && at <= last && is {
				expectOf(t, why, l, at, want)
			} else {
				expectNone(t, why, l, at)
			}
		}
	}
}

// P9.2: points that no longer count go, those whose N is not less than n go, and the new point is appended.
func TestMetPoints(t *testing.T) {
	l := window(10, 0, 20, 5, 24, 7, 30, 9)
	for _, c := range []struct {
		why   string
		at, n int
		want  api.Least
	}{
		{"greater than all", 30, 10, window(10, 0, 20, 5, 24, 7, 30, 9, 30, 10)},
		{"equal to the last one", 30, 9, window(10, 0, 20, 5, 24, 7, 30, 9)},
		{"one less than the last one", 30, 8, window(10, 0, 20, 5, 24, 7, 30, 8)},
		{"equal to the middle one", 30, 7, window(10, 0, 20, 5, 30, 7)},
		{"between the first two", 30, 6, window(10, 0, 20, 5, 30, 6)},
		{"equal to the first one", 30, 5, window(10, 0, 30, 5)},
		{"less than all", 30, 4, window(10, 0, 30, 4)},
		{"0", 30, 0, window(10, 0, 30, 0)},
		{"the first one is too old", 31, 10, window(10, 0, 24, 7, 30, 9, 31, 10)},
		{"the first one is too old, equal to the last one", 34, 9, window(10, 0, 24, 7, 34, 9)},
		{"the second one just counts", 34, 14, window(10, 0, 24, 7, 30, 9, 34, 14)},
		{"the second one is too old", 35, 14, window(10, 0, 30, 9, 35, 14)},
		{"the last one just counts", 40, 18, window(10, 0, 30, 9, 40, 18)},
		{"the last one just counts, less", 40, 3, window(10, 0, 40, 3)},
		{"all are too old", 41, 18, window(10, 0, 41, 18)},
		{"all are too old, less", 41, 3, window(10, 0, 41, 3)},
		{"all are long too old", last, last, window(10, 0, last, last)},
	} {
		expectMet(t, c.why, l, c.at, c.n, c.want, false)
	}
	expectMet(t, "no points", api.Least{Span: 10}, 7, 8, window(10, 0, 7, 8), false)
	expectMet(t, "an empty list", api.Least{Span: 10, L: []api.Point{}}, 0, 0, window(10, 0, 0, 0), false)
	expectMet(t, "the greatest numbers", api.Least{Span: longest}, last, last, window(longest, 0, last, last), false)
	expectMet(t, "0 again", window(10, 0, 5, 0), 6, 0, window(10, 0, 6, 0), false)
	expectMet(t, "the same time", window(10, 0, 5, 6), 5, 7, window(10, 0, 5, 6, 5, 7), false)
	expectMet(t, "the same point", window(10, 0, 5, 6), 5, 6, window(10, 0, 5, 6), false)
	expectMet(t, "just Span old", window(longest, 0, 0, 6), longest, 7, window(longest, 0, 0, 6, longest, 7), false)
	expectMet(t, "older than Span", window(longest, 0, 0, 6), longest+1, 7, window(longest, 0, longest+1, 7), false)
	expectMet(t, "just as old as 1", window(1, 0, 0, 6), 1, 7, window(1, 0, 0, 6, 1, 7), false)
	expectMet(t, "older than 1", window(1, 0, 0, 6), 2, 7, window(1, 0, 2, 7), false)
}

// P9.2: numbers that Met does not accept, with windowed minimums of all kinds.
func TestMetArguments(t *testing.T) {
	outside := []int{math.MinInt, -last, -1, last + 1, 2 * last, math.MaxInt}
	for why, l := range valid() {
		for _, c := range outside {
			expectArg(t, why+", a time out of range", l, c, 5)
			expectArg(t, why+", a number out of range", l, last, c)
			expectArg(t, why+", both out of range", l, c, c)
		}
		if len(l.L) == 0 {
			continue
		}
		end := l.L[len(l.L)-1].At
		for _, at := range []int{end - 1, end - 2, 0} {
			if at < end {
				expectArg(t, why+", before the last point", l, at, 5)
				expectArg(t, why+", before the last point", l, at, last)
			}
		}
		want, anew := after(l, end, 5)
		expectMet(t, why+", at the last point", l, end, 5, want, anew)
	}
	expectArg(t, "between two points", window(10, 0, 5, 6, 9, 7), 7, 8)
	expectArg(t, "one before the last point", window(10, 0, 5, 6), 4, 8)
	expectArg(t, "one before the last point, which would be the eighth", window(10, 7, 5, 6), 4, 100)
}

// P9.2: n is held against 2 times the minimum, for each High.
func TestMetHigh(t *testing.T) {
	for high := range 8 {
		l := window(10, high, 20, 5, 24, 7)
		for _, n := range []int{0, 1, 5, 6, 9, 10} { // up to exactly 2 times the minimum
			want, _ := after(l, 25, n)
			want.High = 0
			expectMet(t, "not greater", l, 25, n, want, false)
		}
		for _, n := range []int{11, 12, 14, 15, 1000, last} {
			expectGreater(t, l, 25, n, 20, 5, 24, 7)
		}
		// The first point counts up to 30: from then on the second one is the minimum.
		expectMet(t, "exactly 2 times the second one", l, 31, 14, window(10, 0, 24, 7, 31, 14), false)
		expectGreater(t, l, 31, 15, 24, 7)
		for _, n := range []int{0, 5, 14, 15, last} {
			expectMet(t, "no point counts", l, 35, n, window(10, 0, 35, n), false)
			expectMet(t, "no point is there", api.Least{Span: 10, High: high}, 35, n, window(10, 0, 35, n), false)
		}
	}
}

// expectGreater checks that a number above 2 times the minimum increments High beside the points that remain, or restarts the window.
func expectGreater(t *testing.T, l api.Least, at, n int, rest ...int) {
	t.Helper()
	if l.High == 7 {
		expectMet(t, "greater, and the eighth", l, at, n, window(l.Span, 0, at, n), true)
	} else {
		expectMet(t, "greater", l, at, n, window(l.Span, l.High+1, append(rest, at, n)...), false)
	}
}

// P9.2: 2 times the minimum where that is 0, and where it is as great as can be.
func TestMetHighEdges(t *testing.T) {
	zero := window(10, 6, 20, 0)
	expectMet(t, "0 is not greater than 0", zero, 21, 0, window(10, 0, 21, 0), false)
	expectMet(t, "1 is greater than 0", zero, 21, 1, window(10, 7, 20, 0, 21, 1), false)
	expectMet(t, "2^60 is greater than 0", zero, 21, last, window(10, 7, 20, 0, 21, last), false)
	zero.High = 7
	expectMet(t, "0 is not greater than 0, and would be the eighth", zero, 21, 0, window(10, 0, 21, 0), false)
	expectMet(t, "1 is greater than 0, and the eighth", zero, 21, 1, window(10, 0, 21, 1), true)
	half := window(10, 7, 20, last/2)
	expectMet(t, "exactly 2 times 2^59", half, 21, last, window(10, 0, 20, last/2, 21, last), false)
	half = window(10, 7, 20, last/2-1)
	expectMet(t, "exactly 2 times one less", half, 21, last-2, window(10, 0, 20, last/2-1, 21, last-2), false)
	expectMet(t, "one more than that", half, 21, last-1, window(10, 0, 21, last-1), true)
	expectMet(t, "two more than that", half, 21, last, window(10, 0, 21, last), true)
	whole := window(10, 7, 20, last)
	expectMet(t, "the same as 2^60", whole, 21, last, window(10, 0, 21, last), false)
	expectMet(t, "just Span old", window(10, 7, 20, 5), 30, 11, window(10, 0, 30, 11), true)
	expectMet(t, "older than Span", window(10, 7, 20, 5), 31, 11, window(10, 0, 31, 11), false)
	expectMet(t, "a restart with 100 points", stairs(200, 7, 100, 0, 1), 100, 101, window(200, 0, 100, 101), true)
	expectMet(t, "a restart at the same time", window(10, 7, 20, 5, 21, 6), 21, 11, window(10, 0, 21, 11), true)
}

// P9.2: eight numbers in a row restart the window, and one that is not greater begins the row anew.
func TestMetRow(t *testing.T) {
	for before := range 8 {
		l := window(1000, 0, 0, 5)
		for i := range before {
			l = expectHigh(t, l, 1+i, 11, i+1)
		}
		l = expectHigh(t, l, 10, 10, 0)
		for i := range 7 {
			l = expectHigh(t, l, 20+i, 11+i, i+1)
		}
		expectMet(t, "the eighth", l, 30, 11, window(1000, 0, 30, 11), true)
		l = expectHigh(t, window(1000, 0, 30, 11), 31, 22, 0)
		expectHigh(t, l, 32, 23, 1)
	}
}

// expectHigh returns l after a number that does not restart the window, and checks its High.
func expectHigh(t *testing.T, l api.Least, at, n, high int) api.Least {
	t.Helper()
	got, anew, e := least.Met(l, at, n)
	if e != api.OK || anew || got.High != high {
		t.Errorf("%d at %d to %+v: %+v %t %d instead of a High of %d", n, at, l, got, anew, e, high)
	}
	return got
}

// P9.2: of more than 100 points the first 100 remain.
func TestMetFull(t *testing.T) {
	full := stairs(1000, 5, 100, 50, 150)
	still := full
	still.High = 0
	expectMet(t, "the 101st point", full, 149, 250, still, false)
	expectMet(t, "the 101st point, later", full, 1050, 300, still, false)
	still.High = 6
	expectMet(t, "the 101st point, more than 2 times the minimum", full, 149, 301, still, false)
	ended := func(first, n, at, number int) api.Least {
		return api.Least{Span: 1000, L: append(slices.Clone(full.L[first:n]), api.Point{At: at, N: number})}
	}
	expectMet(t, "instead of the last one", full, 149, 249, ended(0, 99, 149, 249), false)
	expectMet(t, "instead of the last two", full, 160, 248, ended(0, 98, 160, 248), false)
	expectMet(t, "instead of all but one", full, 160, 151, ended(0, 1, 160, 151), false)
	expectMet(t, "instead of all", full, 160, 150, ended(0, 0, 160, 150), false)
	expectMet(t, "the first one no longer counts", full, 1051, 300, ended(1, 100, 1051, 300), false)
	expectMet(t, "the first two no longer count", full, 1052, 300, ended(2, 100, 1052, 300), false)
	expectMet(t, "only the last one counts", full, 1149, 300, ended(99, 100, 1149, 300), false)
	expectMet(t, "none counts any more", full, 1150, 300, ended(100, 100, 1150, 300), false)
	expectMet(t, "the 100th point", stairs(1000, 0, 99, 50, 150), 149, 249, stairs(1000, 0, 100, 50, 150), false)
}

// P9.2: windowed minimums and numbers of all kinds, by the definition.
func TestMetExact(t *testing.T) {
	for why, l := range valid() {
		first := 0
		if len(l.L) > 0 {
			first = l.L[len(l.L)-1].At
		}
		ats, ns := []int{first, first + 1, first + l.Span, last - 1, last}, []int{0, 1, 2, last/2 - 1, last / 2, last - 1, last}
		for i, p := range l.L {
			if i > 2 && i < len(l.L)-3 {
				continue // the first and the last ones are enough
			}
			ats = append(ats, p.At+l.Span-1, p.At+l.Span, p.At+l.Span+1)
			ns = append(ns, p.N-1, p.N, p.N+1, 2*p.N-1, 2*p.N, 2*p.N+1)
		}
		for _, at := range ats {
			for _, n := range ns {
				if at < first || at > last || n < 0 || n > last {
					expectArg(t, why, l, at, n)
					continue
				}
				want, anew := after(l, at, n)
				expectMet(t, why, l, at, n, want, anew)
			}
		}
	}
}

// P9.2: each windowed minimum with up to three points of small numbers, with small numbers, by the definition.
func TestMetSmall(t *testing.T) {
	const size = 4
	lists := [][]api.Point{nil}
	for i := 0; i < len(lists); i++ { // each list also yields those that have one point more
		l := lists[i]
		expectAll(t, l)
		if len(l) == 3 {
			continue
		}
		for picture := range size * size {
			p := api.Point{At: picture / size, N: picture % size}
			if len(l) == 0 || p.At >= l[len(l)-1].At && p.N > l[len(l)-1].N {
				lists = append(lists, append(slices.Clone(l), p))
			}
		}
	}
	if len(lists) != 1+16+60+80 {
		t.Errorf("%d lists", len(lists))
	}
}

// expectAll expects of Met and Of, for these points and all small times and numbers, what the document says.
func expectAll(t *testing.T, points []api.Point) {
	first := 0
	if len(points) > 0 {
		first = points[len(points)-1].At
	}
	for picture := range 8 * 8 * 8 {
		at, n := picture/8%8, picture%8
		l := api.Least{Span: 2, L: points, High: picture / 64}
		if low, is := lowest(l, at); is {
			expectOf(t, "small", l, at, low)
		} else {
			expectNone(t, "small", l, at)
		}
		if at < first {
			expectArg(t, "small", l, at, n)
			continue
		}
		want, anew := after(l, at, n)
		expectMet(t, "small", l, at, n, want, anew)
	}
}

// series is what was recorded since the window was restarted, and the windowed minimum that it was recorded with.
type series struct {
	l        api.Least
	all      []api.Point
	restarts int
}

// record records a number, and forgets what was recorded before if the window was restarted.
func (s *series) record(t *testing.T, at, n int) {
	t.Helper()
	l, anew, e := least.Met(s.l, at, n)
	if e != api.OK || !least.May(l) {
		t.Fatalf("%d at %d to %+v: %+v %d", n, at, s.l, l, e)
	}
	if anew {
		s.all = nil
		s.restarts++
	}
	s.l, s.all = l, append(s.all, api.Point{At: at, N: n})
}

// expect expects that Of is the minimum of the numbers that were recorded within the time window.
func (s *series) expect(t *testing.T, at int) {
	t.Helper()
	low := -1
	for _, p := range s.all {
		if p.At >= at-s.l.Span && (low < 0 || p.N < low) {
			low = p.N
		}
	}
	if low < 0 {
		expectNone(t, "series", s.l, at)
	} else {
		expectOf(t, "series", s.l, at, low)
	}
}

// run records numbers and expects the minimum after each of them, up to the time when none counts any more.
func (s *series) run(t *testing.T, count int, next func(i int) (step, n int)) {
	t.Helper()
	at := 0
	for i := range count {
		step, n := next(i)
		at += step
		s.record(t, at, n)
		for d := range s.l.Span + 3 {
			s.expect(t, at+d)
		}
	}
}

// P9.3: Of is the minimum of what was recorded within the window, over a longer series without a restart.
func TestSeries(t *testing.T) {
	for seed := range 40 {
		roll := dice(seed)
		s := series{l: api.Least{Span: 1 + roll(60)}}
		low := 1 + roll(1000)
		s.run(t, 400, func(int) (int, int) { return roll(4), low + roll(low+1) }) // at most 2 times the minimum
		if s.restarts != 0 {
			t.Errorf("seed %d: %d restarts", seed, s.restarts)
		}
	}
}

// P9.3: the same over a longer series in which the window is restarted: then the numbers count that were recorded since.
func TestSeriesRestarted(t *testing.T) {
	for seed := range 40 {
		roll := dice(seed)
		s := series{l: api.Least{Span: 20 + roll(60)}}
		s.run(t, 400, func(i int) (int, int) {
			level := 100 << (i / 40 % 3 * 2) // 100, 400 and 1600, and back again
			return roll(2), level + roll(level/4)
		})
		if s.restarts == 0 {
			t.Errorf("seed %d: no restart", seed)
		}
	}
}

// P9.3: one restart, whose numbers are worked out by hand.
func TestSeriesOnce(t *testing.T) {
	s := series{l: api.Least{Span: 100}}
	for i, n := range []int{10, 12, 11, 21, 22, 23, 24, 25, 26, 27, 28, 40, 30} {
		s.record(t, i, n)
		want := []int{10, 10, 10, 10, 10, 10, 10, 10, 10, 10, 28, 28, 28}[i]
		expectOf(t, fmt.Sprint("number ", i), s.l, i, want)
	}
	if s.restarts != 1 || !same(s.l, window(100, 0, 10, 28, 12, 30)) {
		t.Errorf("%d restarts: %+v", s.restarts, s.l)
	}
}

// P9.3: long series of numbers that rise, fall and stay the same.
func TestSeriesRegular(t *testing.T) {
	for _, c := range []struct {
		why  string
		next func(i int) (step, n int)
	}{
		{"rising", func(i int) (int, int) { return 1, 1000 + i }},
		{"falling", func(i int) (int, int) { return 1, 1000 - i }},
		{"the same", func(i int) (int, int) { return 1, 1000 }},
		{"0", func(i int) (int, int) { return 1, 0 }},
		{"rising and falling", func(i int) (int, int) { return 1, 1000 + max(i%50, 50-i%50) }},
		{"at the same time", func(i int) (int, int) { return i % 2, 1000 + i*7%50 }},
		{"with gaps", func(i int) (int, int) { return i % 100, 1000 + i }},
	} {
		s := series{l: api.Least{Span: 99}} // so that up to 100 points count
		s.run(t, 500, c.next)
		if s.restarts != 0 {
			t.Errorf("%s: %d restarts", c.why, s.restarts)
		}
	}
}

// P9.2: long series of numbers of all kinds, by the definition, with more points than fit.
func TestMetSeries(t *testing.T) {
	for seed := range 60 {
		roll := dice(seed)
		l := api.Least{Span: 1 + roll(1<<roll(12))}
		at, size := 0, 1<<(1+roll(58))
		for i := range 500 {
			at += roll(3)
			n := roll(size)
			if seed%3 == 0 {
				n = size + i // rising, so that points remain
			}
			want, anew := after(l, at, n)
			expectMet(t, "series", l, at, n, want, anew)
			l = want
		}
	}
}

// R3: arguments are not modified, nor what lies behind them.
func TestArgumentsKept(t *testing.T) {
	for _, high := range []int{0, 7} {
		for at := 30; at < 50; at++ {
			for n := range 20 {
				whole := points(20, 5, 24, 7, 30, 9, 77, 78, 79, 80)
				l := api.Least{Span: 10, L: whole[:3], High: high}
				least.May(l)
				least.Of(l, at)
				least.Met(l, at, n)
				if !slices.Equal(whole, points(20, 5, 24, 7, 30, 9, 77, 78, 79, 80)) || !same(l, window(10, high, 20, 5, 24, 7, 30, 9)) {
					t.Fatalf("%d at %d, High %d: the argument was modified: %v", n, at, high, whole)
				}
			}
		}
	}
}

// R3: results share no memory with arguments, nor is there any room behind them that does.
func TestResultsOwned(t *testing.T) {
	for _, high := range []int{0, 7} {
		for at := 30; at < 50; at++ {
			for n := range 20 {
				whole := points(20, 5, 24, 7, 30, 9, 77, 78, 79, 80)
				r, _, _ := least.Met(api.Least{Span: 10, L: whole[:3], High: high}, at, n)
				before := slices.Clone(r.L)
				for i := range whole {
					whole[i].N++
				}
				if !slices.Equal(r.L, before) {
					t.Fatalf("%d at %d, High %d: the result was modified with the argument", n, at, high)
				}
				before = slices.Clone(whole)
				behind := r.L[:cap(r.L)]
				for i := range behind {
					behind[i] = api.Point{At: 1, N: 2}
				}
				if !slices.Equal(whole, before) {
					t.Fatalf("%d at %d, High %d: the argument was modified with the result", n, at, high)
				}
			}
		}
	}
	full := stairs(1000, 0, 100, 50, 150)
	r, _, _ := least.Met(full, 149, 250)
	r.L[99].N = 7
	if full.L[99].N != 249 {
		t.Errorf("100 points that remain: the argument was modified with the result")
	}
}

// R5: nothing is kept from one call to the next one.
func TestCallsAgain(t *testing.T) {
	for range 20 {
		expectMet(t, "again", window(10, 0, 20, 5), 21, 11, window(10, 1, 20, 5, 21, 11), false)
		expectMet(t, "the eighth again", window(10, 7, 20, 5), 21, 11, window(10, 0, 21, 11), true)
		expectOf(t, "again", window(10, 0, 20, 5), 30, 5)
		expectNone(t, "again", window(10, 0, 20, 5), 31)
	}
}
