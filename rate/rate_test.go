package rate_test

import (
	"math"
	"math/big"
	"slices"
	"testing"

	"fourinhand/api"
	"fourinhand/rate"
)

const (
	last = 1 << 60 // the greatest Total, the greatest Last and the greatest sample
	most = 1 << 40 // how many bytes can be delivered at once
)

// rated returns a rate with these samples.
func rated(total, at int, samples ...int) api.Rate {
	return api.Rate{Total: total, Last: at, L: samples}
}

// rising returns the numbers 1 to n.
func rising(n int) []int {
	l := make([]int, n)
	for i := range l {
		l[i] = i + 1
	}
	return l
}

// with returns ten samples of which the one at i is n.
func with(i, n int) []int {
	l := rising(10)
	l[i] = n
	return l
}

// same reports whether two rates have the same fields.
func same(a, b api.Rate) bool {
	return a.Total == b.Total && a.Last == b.Last && slices.Equal(a.L, b.L)
}

// isZero reports whether r is the zero value, but for an empty list that is not nil.
func isZero(r api.Rate) bool { return same(r, api.Rate{}) }

// isValid reports whether the document calls r valid.
func isValid(r api.Rate) bool {
	for _, n := range append([]int{r.Total, r.Last}, r.L...) {
		if n < 0 || n > last {
			return false
		}
	}
	return len(r.L) <= 10
}

// valid returns valid rates, among them those with the smallest and the greatest value of each field.
func valid() map[string]api.Rate {
	return map[string]api.Rate{
		"the zero value":                      {},
		"an empty list of samples":            {L: []int{}},
		"a Total of 1":                        rated(1, 0),
		"a Total of 2^60":                     rated(last, 0),
		"a Last of 1":                         rated(0, 1),
		"a Last of 2^60":                      rated(0, last),
		"a Total and a Last of 2^60":          rated(last, last),
		"a sample of 0":                       rated(0, 0, 0),
		"a sample of 2^60":                    rated(0, 0, last),
		"a sample of 0 in the first place":    rated(1000, 10000, with(0, 0)...),
		"a sample of 0 in the middle":         rated(1000, 10000, with(5, 0)...),
		"a sample of 0 in the last place":     rated(1000, 10000, with(9, 0)...),
		"a sample of 2^60 in the first place": rated(1000, 10000, with(0, last)...),
		"a sample of 2^60 in the middle":      rated(1000, 10000, with(4, last)...),
		"a sample of 2^60 in the last place":  rated(1000, 10000, with(9, last)...),
		"nine samples":                        rated(1000, 10000, rising(9)...),
		"ten samples":                         rated(1000, 10000, rising(10)...),
		"ten samples of 0":                    {L: make([]int, 10)},
		"ten samples of 2^60":                 rated(last, last, slices.Repeat([]int{last}, 10)...),
		"samples that fall":                   rated(5000, 70000, 9, 7, 5, 3, 1),
		"samples that are the same":           rated(5000, 70000, 7, 7, 7),
		"each field one below the greatest":   rated(last-1, last-1, last-1),
		"ordinary numbers":                    rated(1234567, 98765432, 100000, 90000, 110000),
		"an ordinary total at 1":              rated(5000000, 1, 100000),
	}
}

// invalid returns rates that are not valid, and why they are that.
func invalid() map[string]api.Rate {
	return map[string]api.Rate{
		"a Total of -1":                       rated(-1, 10000, 5, 6),
		"a Total of -1 and nothing else":      rated(-1, 0),
		"the least Total":                     rated(math.MinInt, 10000, 5, 6),
		"a Total of 2^60 + 1":                 rated(last+1, 10000, 5, 6),
		"a Total of 2^60 + 1 by itself":       rated(last+1, 0),
		"the greatest Total":                  rated(math.MaxInt, 10000, 5, 6),
		"a Last of -1":                        rated(1000, -1, 5, 6),
		"a Last of -1 and nothing else":       rated(0, -1),
		"the least Last":                      rated(1000, math.MinInt, 5, 6),
		"a Last of 2^60 + 1":                  rated(1000, last+1, 5, 6),
		"a Last of 2^60 + 1 by itself":        rated(0, last+1),
		"the greatest Last":                   rated(1000, math.MaxInt, 5, 6),
		"eleven samples":                      rated(1000, 10000, rising(11)...),
		"eleven samples of 0":                 {L: make([]int, 11)},
		"a thousand samples":                  rated(1000, 10000, rising(1000)...),
		"a sample of -1":                      rated(1000, 10000, -1),
		"a sample of -1 in the first place":   rated(1000, 10000, with(0, -1)...),
		"a sample of -1 in the middle":        rated(1000, 10000, with(5, -1)...),
		"a sample of -1 in the last place":    rated(1000, 10000, with(9, -1)...),
		"the least sample":                    rated(1000, 10000, 5, math.MinInt, 6),
		"a sample of 2^60 + 1":                rated(1000, 10000, last+1),
		"a sample of 2^60 + 1, first":         rated(1000, 10000, with(0, last+1)...),
		"a sample of 2^60 + 1 in the middle":  rated(1000, 10000, with(4, last+1)...),
		"a sample of 2^60 + 1, last":          rated(1000, 10000, with(9, last+1)...),
		"the greatest sample":                 rated(1000, 10000, 5, math.MaxInt, 6),
		"each field as small as an int is":    rated(math.MinInt, math.MinInt, math.MinInt),
		"each field as great as an int is":    rated(math.MaxInt, math.MaxInt, math.MaxInt),
		"a Total of -1, Last of 2^60 and ten": rated(-1, last, rising(10)...),
	}
}

// dice returns a function that returns numbers from 0 on below n, which depend on the seed only.
func dice(seed int) func(n int) int {
	state := uint64(seed)*2862933555777941757 + 3037000493
	return func(n int) int {
		state = state*6364136223846793005 + 1442695040888963407
		return int(state>>3) % n
	}
}

// expectCame checks the results of a Came that succeeds.
func expectCame(t *testing.T, why string, r api.Rate, at, bytes int, want api.Rate) {
	t.Helper()
	got, e := rate.Came(r, at, bytes)
	if e != api.OK || !same(got, want) {
		t.Errorf("%s: %d bytes at %d to %v: %v %d instead of %v", why, bytes, at, r, got, e, want)
	}
}

// expectCameError checks that Came returns an error and nothing else.
func expectCameError(t *testing.T, why string, r api.Rate, at, bytes int, want api.Errno) {
	t.Helper()
	got, e := rate.Came(r, at, bytes)
	if e != want || !isZero(got) {
		t.Errorf("%s: %d bytes at %d to %v: %v %d instead of error %d", why, bytes, at, r, got, e, want)
	}
}

// expectSample checks the results of a Sample that succeeds.
func expectSample(t *testing.T, why string, r api.Rate, total, at int, want api.Rate, n int) {
	t.Helper()
	got, is, e := rate.Sample(r, total, at)
	if e != api.OK || is != n || !same(got, want) {
		t.Errorf("%s: from %d at %d of %v: %v %d %d instead of %v %d", why, total, at, r, got, is, e, want, n)
	}
}

// expectSampleArg checks that Sample returns ErrArg and nothing else.
func expectSampleArg(t *testing.T, why string, r api.Rate, total, at int) {
	t.Helper()
	got, n, e := rate.Sample(r, total, at)
	if e != api.ErrArg || n != 0 || !isZero(got) {
		t.Errorf("%s: from %d at %d of %v: %v %d %d instead of ErrArg", why, total, at, r, got, n, e)
	}
}

// expectSpeed checks the sample when bytes took so long, by itself and behind others, with a Total and a Last beyond these.
func expectSpeed(t *testing.T, why string, bytes, took, want int) {
	t.Helper()
	expectSample(t, why, rated(bytes, took), 0, 0, rated(bytes, took, want), want)
	expectSample(t, why, rated(last, last, 3, 4), last-bytes, last-took, rated(last, last, 3, 4, want), want)
}

// exact returns what the document says the sample is when bytes took so long.
func exact(bytes, took int) int {
	n := new(big.Int).Mul(big.NewInt(1000000), big.NewInt(int64(bytes)))
	n.Div(n, big.NewInt(int64(took)))
	if n.Cmp(big.NewInt(last)) > 0 {
		return last
	}
	return int(n.Int64())
}

// sampled returns what the document says Sample is, of a valid rate and arguments that it accepts.
func sampled(r api.Rate, total, at int) (api.Rate, int) {
	if at == r.Last {
		return r, 0
	}
	n := exact(r.Total-total, r.Last-at)
	l := append(slices.Clone(r.L), n)
	if len(l) > 10 {
		l = l[1:]
	}
	return rated(r.Total, r.Last, l...), n
}

// expectBest checks Best.
func expectBest(t *testing.T, why string, r api.Rate, want int) {
	t.Helper()
	if n := rate.Best(r); n != want {
		t.Errorf("%s: the best of %v is %d instead of %d", why, r, n, want)
	}
}

// P11.1, P11.2, P11.3: valid rates, which May, Came and Sample accept.
func TestValid(t *testing.T) {
	for why, r := range valid() {
		if !rate.May(r) {
			t.Errorf("%s: not valid", why)
		}
		expectCame(t, why, r, last, 0, rated(r.Total, last, r.L...))
		expectSample(t, why, r, 0, r.Last, r, 0)
		want := 0
		for _, n := range r.L {
			want = max(want, n)
		}
		expectBest(t, why, r, want)
	}
}

// P11.1, P11.2, P11.3: rates that are not valid: May, ErrArg of Came and Sample, and a Best of 0.
func TestInvalid(t *testing.T) {
	numbers := []int{math.MinInt, -1, 0, 1, 1000, 10000, most, last, last + 1, math.MaxInt}
	for why, r := range invalid() {
		if rate.May(r) {
			t.Errorf("%s: valid", why)
		}
		expectBest(t, why, r, 0)
		for _, a := range append(numbers, r.Total, r.Last) {
			for _, b := range append(numbers, r.Total, r.Last) {
				expectCameError(t, why, r, a, b, api.ErrArg)
				expectSampleArg(t, why, r, a, b)
			}
		}
	}
}

// P11.1: all rates of up to three samples with numbers at the edges of what they may be, by the definition.
func TestValidity(t *testing.T) {
	edges := []int{math.MinInt, -1, 0, 1, last - 1, last, last + 1, math.MaxInt}
	lists := [][]int{nil, {}}
	for _, a := range edges {
		lists = append(lists, []int{a})
		for _, b := range edges {
			lists = append(lists, []int{a, b})
			for _, c := range edges {
				lists = append(lists, []int{a, b, c})
			}
		}
	}
	for _, total := range edges {
		for _, at := range edges {
			for _, l := range lists {
				if r := rated(total, at, l...); rate.May(r) != isValid(r) {
					t.Errorf("%v: May is %t", r, rate.May(r))
				}
			}
		}
	}
}

// P11.1: rates of each number of samples up to more than ten, with one in each place that may not be.
func TestNumberOfSamples(t *testing.T) {
	for n := range 40 {
		if r := rated(1000, 10000, rising(n)...); rate.May(r) != (n <= 10) {
			t.Errorf("%d samples: May is %t", n, rate.May(r))
		}
		for i := range n {
			for _, wrong := range []int{-1, last + 1} {
				l := rising(n)
				l[i] = wrong
				if rate.May(rated(1000, 10000, l...)) {
					t.Errorf("%d samples with %d at %d: valid", n, wrong, i)
				}
			}
		}
	}
}

// P11.1, P11.2, P11.3: the document's example.
func TestExample(t *testing.T) {
	r, e := rate.Came(api.Rate{}, 10000, 1000)
	if e != api.OK || !same(r, rated(1000, 10000)) {
		t.Errorf("after 1000 bytes: %v %d", r, e)
	}
	r, n, e := rate.Sample(r, 0, 0)
	if e != api.OK || n != 100000 || !same(r, rated(1000, 10000, 100000)) {
		t.Errorf("after the sample: %v %d %d", r, n, e)
	}
	expectBest(t, "the example", r, 100000)
}

// P11.1: Total increases by bytes, Last becomes at, and the samples stay.
func TestCame(t *testing.T) {
	r := rated(1000, 10000, 7, 9, 8)
	expectCame(t, "ordinary", r, 25000, 500, rated(1500, 25000, 7, 9, 8))
	expectCame(t, "at exactly Last", r, 10000, 500, rated(1500, 10000, 7, 9, 8))
	expectCame(t, "one after Last", r, 10001, 500, rated(1500, 10001, 7, 9, 8))
	expectCame(t, "at 2^60", r, last, 500, rated(1500, last, 7, 9, 8))
	expectCame(t, "no bytes", r, 25000, 0, rated(1000, 25000, 7, 9, 8))
	expectCame(t, "no bytes at exactly Last", r, 10000, 0, r)
	expectCame(t, "one byte", r, 25000, 1, rated(1001, 25000, 7, 9, 8))
	expectCame(t, "2^40 bytes", r, 25000, most, rated(1000+most, 25000, 7, 9, 8))
	expectCame(t, "2^40 bytes at 2^60", r, last, most, rated(1000+most, last, 7, 9, 8))
	expectCame(t, "to the zero value, at 0", api.Rate{}, 0, 5, rated(5, 0))
	expectCame(t, "to the zero value, nothing", api.Rate{}, 0, 0, api.Rate{})
	expectCame(t, "a Last of 2^60", rated(0, last, 1), last, 5, rated(5, last, 1))
	for n := range 11 {
		expectCame(t, "samples", rated(1000, 10000, rising(n)...), 10007, 3, rated(1003, 10007, rising(n)...))
	}
}

// P11.1: at and bytes that are not in range.
func TestCameArg(t *testing.T) {
	r := rated(1000, 10000, 7, 9, 8)
	for _, at := range []int{math.MinInt, -10000, -1, 0, 9998, 9999, last + 1, last + 2, 2 * last, math.MaxInt} {
		for _, bytes := range []int{0, 500, most} {
			expectCameError(t, "at is not in range", r, at, bytes, api.ErrArg)
		}
	}
	for _, bytes := range []int{math.MinInt, -500, -2, -1, most + 1, most + 2, last, last + 1, math.MaxInt} {
		for _, at := range []int{10000, 25000, last} {
			expectCameError(t, "bytes is not in range", r, at, bytes, api.ErrArg)
		}
	}
	expectCameError(t, "neither is in range", r, 9999, -1, api.ErrArg)
	expectCameError(t, "at is -1", api.Rate{}, -1, 0, api.ErrArg)
	expectCameError(t, "bytes is -1", api.Rate{}, 0, -1, api.ErrArg)
	expectCameError(t, "at is just before a Last of 2^60", rated(0, last), last-1, 0, api.ErrArg)
}

// P11.1: a Total beyond 2^60, and that ErrArg goes before it.
func TestCameOver(t *testing.T) {
	for _, bytes := range []int{0, 1, 2, 1000, most - 1, most} {
		r := rated(last-bytes, 10000, 7, 9)
		expectCame(t, "a Total of exactly 2^60", r, 10005, bytes, rated(last, 10005, 7, 9))
		if bytes < most {
			expectCameError(t, "a Total of 2^60 + 1", r, 10005, bytes+1, api.ErrOver)
			expectCameError(t, "a Total of more than 2^60", r, 10005, most, api.ErrOver)
		}
		for _, at := range []int{math.MinInt, -1, 9999, last + 1, math.MaxInt} {
			expectCameError(t, "both, for at", r, at, bytes+1, api.ErrArg)
			expectCameError(t, "both, for at", r, at, most, api.ErrArg)
		}
		expectCameError(t, "both, for bytes", r, 10005, most+1, api.ErrArg)
		expectCameError(t, "both, for bytes", r, 10005, math.MaxInt, api.ErrArg)
	}
	full := rated(last, last, rising(10)...)
	expectCame(t, "nothing more", full, last, 0, full)
	expectCameError(t, "one more", full, last, 1, api.ErrOver)
	expectCameError(t, "both, for the sample", rated(last, 0, -1), 5, 1, api.ErrArg)
	expectCameError(t, "both, for eleven samples", rated(last, 0, rising(11)...), 5, 1, api.ErrArg)
	expectCameError(t, "both, for the Last", rated(last, -1), 5, 1, api.ErrArg)
	expectCameError(t, "both, for the Total", rated(last+1, 0), 5, 1, api.ErrArg)
}

// P11.1: Came with numbers at the edges, by the definition.
func TestCameEdges(t *testing.T) {
	for why, r := range valid() {
		for _, at := range []int{math.MinInt, -1, 0, 1, r.Last - 1, r.Last, r.Last + 1, last - 1, last, last + 1, math.MaxInt} {
			for _, bytes := range []int{math.MinInt, -1, 0, 1, 2, last - r.Total, last - r.Total + 1, most - 1, most, most + 1, math.MaxInt} {
				switch {
				case at < r.Last || at > last || bytes < 0 || bytes > most:
					expectCameError(t, why, r, at, bytes, api.ErrArg)
				case bytes > last-r.Total:
					expectCameError(t, why, r, at, bytes, api.ErrOver)
				default:
					expectCame(t, why, r, at, bytes, rated(r.Total+bytes, at, r.L...))
				}
			}
		}
	}
}

// P11.2: samples of all sizes, which are rounded down and are at most 2^60.
func TestSample(t *testing.T) {
	expectSpeed(t, "ordinary", 1000, 10000, 100000)
	expectSpeed(t, "one byte in a second", 1, 1000000, 1)
	expectSpeed(t, "one byte in a microsecond", 1, 1, 1000000)
	expectSpeed(t, "a remainder", 1000, 30000, 33333)
	expectSpeed(t, "a remainder of nearly one", 1000, 70000, 14285) // 14285.71...
	expectSpeed(t, "just less than 1", 1, 1000001, 0)
	expectSpeed(t, "just less than 2", 1999999, 1000000000000, 1)
	expectSpeed(t, "no bytes", 0, 1, 0)
	expectSpeed(t, "no bytes in the longest time", 0, last, 0)
	expectSpeed(t, "one byte in the longest time", 1, last, 0)
	expectSpeed(t, "2^60 in a time of 2^60", last, last, 1000000)
	expectSpeed(t, "a product just below 2^63", 9223372036854, 1000000, 9223372036854)
	expectSpeed(t, "a product just beyond 2^63", 9223372036855, 1000000, 9223372036855)
	expectSpeed(t, "a product beyond 2^64, with a remainder", 100000000000000, 7000, 14285714285714285)
	expectSpeed(t, "a product beyond 2^64, divided by 3000000", 1<<59+1, 3000000, (1<<59+1)/3)
	expectSpeed(t, "one less than 2^60", last-1, 1000000, last-1)
	expectSpeed(t, "exactly 2^60", last, 1000000, last)
	expectSpeed(t, "exactly 2^60, in half the time", last/2, 500000, last)
	expectSpeed(t, "a little more than 2^60", last, 999999, last)
	expectSpeed(t, "64 more than 2^60", 1<<54+1, 15625, last) // 64 * (2^54 + 1)
	expectSpeed(t, "64 less than 2^60", 1<<54-1, 15625, last-64)
	expectSpeed(t, "twice 2^60", last, 500000, last)
	expectSpeed(t, "exactly 2^62", last, 250000, last)
	expectSpeed(t, "a little more than 2^62", last, 249999, last)
	expectSpeed(t, "2^63", last, 125000, last)
	expectSpeed(t, "2^64", last, 62500, last)
	expectSpeed(t, "the greatest quotient", last, 1, last)
}

// P11.2: the sample is that of the difference, from total and last on.
func TestSampleDifference(t *testing.T) {
	r := rated(5000, 90000, 6)
	for _, c := range []struct{ total, at, want int }{
		{0, 0, 55555}, {1000, 0, 44444}, {5000, 0, 0}, {0, 50000, 125000}, {1000, 50000, 100000}, {4999, 89999, 1000000},
		{5000, 89999, 0}, {0, 89999, 5000000000}, {4000, 80000, 100000}, {4000, 30000, 16666},
	} {
		expectSample(t, "differences", r, c.total, c.at, rated(5000, 90000, 6, c.want), c.want)
	}
}

// P11.2: without time between there is no sample, and the rate stays as it was.
func TestNoSample(t *testing.T) {
	for n := range 11 {
		r := rated(5000, 90000, rising(n)...)
		for _, total := range []int{0, 1, 2500, 4999, 5000} {
			expectSample(t, "no time", r, total, 90000, r, 0)
		}
	}
	expectSample(t, "no time, the zero value", api.Rate{}, 0, 0, api.Rate{}, 0)
	expectSample(t, "no time, a Last of 0", rated(5000, 0, 4), 0, 0, rated(5000, 0, 4), 0)
	expectSample(t, "no time, the greatest numbers", rated(last, last, last), last, last, rated(last, last, last), 0)
	expectSample(t, "no time, all bytes", rated(last, last, 1), 0, last, rated(last, last, 1), 0)
}

// P11.2: total and last that are not in range.
func TestSampleArg(t *testing.T) {
	r := rated(5000, 90000, 6, 7)
	for _, total := range []int{math.MinInt, -5000, -1, 5001, 5002, last, last + 1, math.MaxInt} {
		for _, at := range []int{0, 100, 89999, 90000} {
			expectSampleArg(t, "total is not in range", r, total, at)
		}
	}
	for _, at := range []int{math.MinInt, -90000, -1, 90001, 90002, last, last + 1, math.MaxInt} {
		for _, total := range []int{0, 100, 4999, 5000} {
			expectSampleArg(t, "last is not in range", r, total, at)
		}
	}
	expectSampleArg(t, "neither is in range", r, -1, 90001)
	expectSampleArg(t, "total is 1, of 0", rated(0, 5), 1, 0)
	expectSampleArg(t, "last is 1, of 0", rated(5, 0), 0, 1)
	expectSampleArg(t, "total is -1, of 0", api.Rate{}, -1, 0)
	expectSampleArg(t, "last is -1, of 0", api.Rate{}, 0, -1)
	expectSampleArg(t, "total is 2^60 + 1", rated(last, last), last+1, 0)
	expectSampleArg(t, "last is 2^60 + 1", rated(last, last), 0, last+1)
}

// P11.2: the sample is the last one, the others keep their order, and of ten the first one is dropped.
func TestSampleOrder(t *testing.T) {
	for _, c := range []struct{ before, after []int }{
		{nil, []int{100000}},
		{[]int{}, []int{100000}},
		{[]int{5}, []int{5, 100000}},
		{[]int{9, 3, 7}, []int{9, 3, 7, 100000}},
		{[]int{9, 3, 7, 8, 1, 1, 6, 5}, []int{9, 3, 7, 8, 1, 1, 6, 5, 100000}},
		{[]int{9, 3, 7, 8, 1, 1, 6, 5, 200000}, []int{9, 3, 7, 8, 1, 1, 6, 5, 200000, 100000}},
		{[]int{9, 3, 7, 8, 1, 1, 6, 5, 200000, 4}, []int{3, 7, 8, 1, 1, 6, 5, 200000, 4, 100000}},
		{[]int{last, 3, 7, 8, 1, 1, 6, 5, 200000, 4}, []int{3, 7, 8, 1, 1, 6, 5, 200000, 4, 100000}},
		{[]int{100000, 100000, 7, 8, 1, 1, 6, 5, 3, 4}, []int{100000, 7, 8, 1, 1, 6, 5, 3, 4, 100000}},
		{make([]int, 10), []int{0, 0, 0, 0, 0, 0, 0, 0, 0, 100000}},
	} {
		expectSample(t, "order", rated(3000, 45000, c.before...), 2000, 35000, rated(3000, 45000, c.after...), 100000)
	}
	for n := range 11 {
		want := append(rising(n), 100000)
		expectSample(t, "each number of samples", rated(1000, 10000, rising(n)...), 0, 0, rated(1000, 10000, want[max(0, n-9):]...), 100000)
	}
}

// P11.2: Sample with numbers at the edges, by the definition.
func TestSampleEdges(t *testing.T) {
	for why, r := range valid() {
		totals := []int{math.MinInt, -1, 0, 1, r.Total / 2, r.Total - most, r.Total - 1000, r.Total - 1, r.Total, r.Total + 1, last, last + 1, math.MaxInt}
		ats := []int{math.MinInt, -1, 0, 1, r.Last / 2, r.Last - 1000000, r.Last - 249999, r.Last - 7, r.Last - 1, r.Last, r.Last + 1, last, last + 1, math.MaxInt}
		for _, total := range totals {
			for _, at := range ats {
				if total < 0 || total > r.Total || at < 0 || at > r.Last {
					expectSampleArg(t, why, r, total, at)
					continue
				}
				want, n := sampled(r, total, at)
				expectSample(t, why, r, total, at, want, n)
			}
		}
	}
}

// P11.2: numbers of all sizes, by the definition.
func TestSampleExact(t *testing.T) {
	roll := dice(11)
	for range 50000 {
		bytes, took := roll(1<<(1+roll(60))), 1+roll(1<<(1+roll(60)))
		expectSpeed(t, "all sizes", bytes, took, exact(bytes, took))
	}
}

// P11.3: Best is the greatest sample, wherever it is, or 0.
func TestBest(t *testing.T) {
	for _, c := range []struct {
		why     string
		samples []int
		want    int
	}{
		{"no samples", nil, 0},
		{"an empty list", []int{}, 0},
		{"one sample", []int{7}, 7},
		{"one sample of 0", []int{0}, 0},
		{"one sample of 2^60", []int{last}, last},
		{"in the first place", []int{9, 3, 7}, 9},
		{"in the middle", []int{3, 9, 7}, 9},
		{"in the last place", []int{3, 7, 9}, 9},
		{"two that are the same", []int{3, 9, 7, 9, 1}, 9},
		{"two that are the same and nothing else", []int{9, 9}, 9},
		{"all of them 0", make([]int, 10), 0},
		{"ten that rise", rising(10), 10},
		{"2^60 and one less", []int{last - 1, last, last - 1}, last},
	} {
		expectBest(t, c.why, rated(1000, 10000, c.samples...), c.want)
		expectBest(t, c.why, rated(0, 0, c.samples...), c.want)
		expectBest(t, c.why, rated(last, last, c.samples...), c.want)
	}
	for n := 1; n <= 10; n++ {
		for i := range n {
			l := rising(n)
			l[i] = 5000
			expectBest(t, "each place", rated(1000, 10000, l...), 5000)
		}
	}
	for _, r := range []api.Rate{
		rated(-1, 0, 7), rated(last+1, 0, 7), rated(0, -1, 7), rated(0, last+1, 7),
		rated(0, 0, 7, -1), rated(0, 0, 7, last+1), rated(0, 0, rising(11)...),
	} {
		expectBest(t, "not valid", r, 0)
	}
}

// series is a rate, and all samples that were taken of it.
type series struct {
	r   api.Rate
	all []int
}

// came records bytes.
func (s *series) came(t *testing.T, at, bytes int) {
	t.Helper()
	r, e := rate.Came(s.r, at, bytes)
	if e != api.OK || !same(r, rated(s.r.Total+bytes, at, s.r.L...)) {
		t.Fatalf("%d bytes at %d to %v: %v %d", bytes, at, s.r, r, e)
	}
	s.r = r
}

// sample takes a sample, and expects the last ten ones of all that were taken, and that Best is the greatest one of these.
func (s *series) sample(t *testing.T, total, at int) {
	t.Helper()
	r, n, e := rate.Sample(s.r, total, at)
	if at != s.r.Last {
		s.all = append(s.all, exact(s.r.Total-total, s.r.Last-at))
	}
	lastTen := s.all[max(0, len(s.all)-10):]
	if e != api.OK || !rate.May(r) || !same(r, rated(s.r.Total, s.r.Last, lastTen...)) {
		t.Fatalf("from %d at %d of %v: %v %d %d", total, at, s.r, r, n, e)
	}
	best := rate.Best(r)
	if len(lastTen) > 0 && (!slices.Contains(lastTen, best) || best != slices.Max(lastTen)) || len(lastTen) == 0 && best != 0 {
		t.Fatalf("the best of %v is %d", lastTen, best)
	}
	s.r = r
}

// P11.4: Best is one of the last ten samples, over longer series of bytes of all sizes.
func TestSeries(t *testing.T) {
	for seed := range 60 {
		roll := dice(seed)
		size, step := 1<<roll(40), 1+roll(1<<(1+roll(20)))
		s := series{r: api.Rate{}}
		for range 300 {
			total, at := s.r.Total, s.r.Last
			for range 1 + roll(3) {
				s.came(t, s.r.Last+roll(step), roll(size))
			}
			s.sample(t, total, at)
		}
	}
}

// pick returns yes if is is true, and no otherwise.
func pick(is bool, yes, no int) int {
	if is {
		return yes
	}
	return no
}

// P11.4: samples that rise, fall and stay the same: the greatest one counts until ten more were taken.
func TestSeriesRegular(t *testing.T) {
	for _, c := range []struct {
		why   string
		bytes func(i int) int
		best  func(i int) int
	}{
		{"rising", func(i int) int { return 100 + i }, func(i int) int { return 100 + i }},
		{"falling", func(i int) int { return 1000 - i }, func(i int) int { return 1000 - max(0, i-9) }},
		{"the same", func(i int) int { return 1000 }, func(i int) int { return 1000 }},
		{"the first one far greater", func(i int) int { return pick(i == 0, 999, 1) }, func(i int) int { return pick(i < 10, 999, 1) }},
		{"one far greater", func(i int) int { return pick(i == 20, 999, 1) }, func(i int) int { return pick(i >= 20 && i < 30, 999, 1) }},
		{"nothing", func(i int) int { return 0 }, func(i int) int { return 0 }},
	} {
		s := series{}
		for i := range 200 {
			total, at := s.r.Total, s.r.Last
			s.came(t, at+1000, c.bytes(i))
			s.sample(t, total, at)
			if n := rate.Best(s.r); n != 1000*c.best(i) {
				t.Fatalf("%s: the best after %d is %d instead of %d", c.why, i, n, 1000*c.best(i))
			}
		}
	}
}

// calls returns the results of all calls that return a rate.
func calls(r api.Rate) []api.Rate {
	a, _ := rate.Came(r, r.Last, 0)
	b, _ := rate.Came(r, r.Last+5, 7)
	c, _, _ := rate.Sample(r, 0, r.Last)
	d, _, _ := rate.Sample(r, 0, 0)
	return []api.Rate{a, b, c, d}
}

// R3: arguments are not modified, nor what lies behind them.
func TestArgumentsKept(t *testing.T) {
	for n := range 11 {
		whole := rising(20)
		r := rated(1000, 10000, whole[:n]...)
		rate.May(r)
		rate.Best(r)
		calls(r)
		rate.Came(r, 9999, 1)
		rate.Sample(r, 1001, 0)
		if !slices.Equal(whole, rising(20)) || !same(r, rated(1000, 10000, rising(n)...)) {
			t.Errorf("%d samples: the argument was modified: %v %v", n, r, whole)
		}
	}
	for why, r := range invalid() {
		before := rated(r.Total, r.Last, slices.Clone(r.L)...)
		rate.May(r)
		rate.Best(r)
		calls(r)
		if !same(r, before) {
			t.Errorf("%s: the argument was modified: %v", why, r)
		}
	}
}

// R3: results share no memory with arguments, nor is there any room behind them that does.
func TestResultsOwned(t *testing.T) {
	for n := range 11 {
		whole := rising(20)
		for i, got := range calls(rated(1000, 10000, whole[:n]...)) {
			before := slices.Clone(got.L)
			for k := range whole {
				whole[k] += 100
			}
			if !slices.Equal(got.L, before) {
				t.Errorf("%d samples, call %d: the result was modified with the argument", n, i)
			}
			before = slices.Clone(whole)
			behind := got.L[:cap(got.L)]
			for k := range behind {
				behind[k] = -1
			}
			if !slices.Equal(whole, before) {
				t.Errorf("%d samples, call %d: the argument was modified with the result", n, i)
			}
		}
	}
}

// R3: two results of the same argument share no memory either.
func TestResultsApart(t *testing.T) {
	for n := range 11 {
		r := rated(1000, 10000, append(make([]int, 0, 30), rising(n)...)...)
		first := calls(r)
		second := calls(r)
		for i := range first {
			before := slices.Clone(second[i].L)
			all := first[i].L[:cap(first[i].L)]
			for k := range all {
				all[k] = -1
			}
			if !slices.Equal(second[i].L, before) {
				t.Errorf("%d samples, call %d: the second result was modified with the first one", n, i)
			}
		}
	}
}

// R5: nothing is kept from one call to the next one.
func TestCallsAgain(t *testing.T) {
	for range 20 {
		r := rated(1000, 10000, rising(10)...)
		expectCame(t, "again", r, 10500, 70, rated(1070, 10500, rising(10)...))
		expectSample(t, "again", r, 0, 0, rated(1000, 10000, 2, 3, 4, 5, 6, 7, 8, 9, 10, 100000), 100000)
		expectBest(t, "again", r, 10)
	}
}
