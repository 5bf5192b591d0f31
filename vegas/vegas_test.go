package vegas_test

import (
	"math"
	"math/big"
	"slices"
	"testing"

	"fourinhand/api"
	"fourinhand/vegas"
	"fourinhand/xmp"
)

const (
	widest  = 1 << 30 // the greatest window, queue and alpha
	longest = 1 << 40 // the greatest time
	allowed = 1 << 20 // the greatest total
)

// The verdicts, as the document numbers them.
const (
	stay   = 0
	grow   = 1
	shrink = 2
	leave  = 3
)

func win(cwnd, thresh int) api.Win { return api.Win{Cwnd: cwnd, Thresh: thresh} }
func way(cwnd, srtt int) api.Way   { return api.Way{Cwnd: cwnd, Srtt: srtt} }
func ways(l ...api.Way) []api.Way  { return l }
func list(l ...int) []int          { return l }
func yesAndNo() []bool             { return []bool{false, true} }

// state is a window with the limits that it is in.
type state struct {
	w         api.Win
	mss, most int
}

// at returns windows in the ordinary limits, 100 and 9000.
func at(cwnd, thresh int) state { return state{win(cwnd, thresh), 100, 9000} }

// validStates returns windows that are valid, with the smallest and the greatest values of each field and limit among them.
func validStates() map[string]state {
	return map[string]state{
		"one that grows fast":            at(1000, 1500),
		"one that does not":              at(2000, 1500),
		"an mss of 1":                    {win(1000, 1500), 1, 9000},
		"an mss of 1460":                 {win(1460, 1500), 1460, 9000},
		"a most of mss":                  {win(100, 100), 100, 100},
		"a most of mss + 1":              {win(100, 101), 100, 101},
		"a most of 2^30":                 {win(1000, 1500), 100, widest},
		"an mss and a most of 1":         {win(1, 1), 1, 1},
		"an mss and a most of 1460":      {win(1460, 1460), 1460, 1460},
		"a Cwnd of mss":                  at(100, 1500),
		"a Cwnd of most":                 at(9000, 1500),
		"a Cwnd of 1":                    {win(1, 1500), 1, 9000},
		"a Cwnd of 2^30":                 {win(widest, 1500), 100, widest},
		"a Thresh of mss":                at(1000, 100),
		"a Thresh of most":               at(1000, 9000),
		"a Thresh of 1":                  {win(1000, 1), 1, 9000},
		"a Thresh of 2^30":               {win(1000, widest), 100, widest},
		"a Cwnd and a Thresh of mss":     at(100, 100),
		"a Cwnd and a Thresh of most":    at(9000, 9000),
		"a Cwnd and a Thresh of 2^30":    {win(widest, widest), 1460, widest},
		"a Cwnd of mss, Thresh of most":  at(100, 9000),
		"a Cwnd of most, Thresh of mss":  at(9000, 100),
		"Cwnd and Thresh are one number": at(1000, 1000),
	}
}

// invalidStates returns windows that are not valid because of one number, and why they are that.
func invalidStates() map[string]state {
	w := win(1000, 1500)
	small := win(1, 1) // valid for all limits that begin at 1 or below
	return map[string]state{
		"an mss of 0":                       {w, 0, 9000},
		"an mss of 0 and small windows":     {small, 0, 9000},
		"an mss of -1":                      {w, -1, 9000},
		"an mss of -1 and small windows":    {small, -1, 1},
		"an mss of 1461":                    {win(2000, 2500), 1461, 9000},
		"an mss of 1461, most of it":        {win(1461, 1461), 1461, 1461},
		"the least mss":                     {w, math.MinInt, 9000},
		"the greatest mss":                  {w, math.MaxInt, 9000},
		"the greatest mss and most":         {win(math.MaxInt, math.MaxInt), math.MaxInt, math.MaxInt},
		"a most one below mss":              {win(100, 100), 100, 99},
		"a most one below mss, windows too": {win(99, 99), 100, 99},
		"a most of 0":                       {small, 1, 0},
		"a most of -1":                      {small, 1, -1},
		"a most of 2^30 + 1":                {w, 100, widest + 1},
		"a most of 2^30 + 1, windows too":   {win(widest+1, widest+1), 100, widest + 1},
		"the least most":                    {w, 100, math.MinInt},
		"the greatest most":                 {w, 100, math.MaxInt},
		"a Cwnd one below mss":              at(99, 1500),
		"a Cwnd one above most":             at(9001, 1500),
		"a Cwnd of 0":                       {win(0, 1500), 1, 9000},
		"a Cwnd of -1":                      {win(-1, 1500), 1, 9000},
		"a Cwnd of 2^30 + 1":                {win(widest+1, 1500), 100, widest},
		"the least Cwnd":                    at(math.MinInt, 1500),
		"the greatest Cwnd":                 at(math.MaxInt, 1500),
		"a Thresh one below mss":            at(1000, 99),
		"a Thresh one above most":           at(1000, 9001),
		"a Thresh of 0":                     {win(1000, 0), 1, 9000},
		"a Thresh of -1":                    {win(1000, -1), 1, 9000},
		"a Thresh of 2^30 + 1":              {win(1000, widest+1), 100, widest},
		"the least Thresh":                  at(1000, math.MinInt),
		"the greatest Thresh":               at(1000, math.MaxInt),
		"a window of zeros":                 {win(0, 0), 1, 9000},
		"everything is 0":                   {},
	}
}

// weightless returns ways that have no weight, and why.
func weightless() map[string]api.Way {
	return map[string]api.Way{
		"a Cwnd of 0":                  way(0, 100),
		"a Cwnd of -1":                 way(-1, 100),
		"the least Cwnd":               way(math.MinInt, 100),
		"a Cwnd of 2^30 + 1":           way(widest+1, 100),
		"the greatest Cwnd":            way(math.MaxInt, 100),
		"an Srtt of 0":                 way(1000, 0),
		"an Srtt of -1":                way(1000, -1),
		"the least Srtt":               way(1000, math.MinInt),
		"an Srtt of 2^40 + 1":          way(widest, longest+1),
		"the greatest Srtt":            way(widest, math.MaxInt),
		"the zero value":               {},
		"negative Cwnd and Srtt":       way(-1000, -100),
		"a weight rounded down to 0":   way(1, 1<<20+1),
		"a weight far below 1":         way(1, longest),
		"a greater one rounded down":   way(1000, 1000<<20+1),
		"the greatest one rounded off": way(1<<20-1, longest),
	}
}

// isValid reports whether the document calls w valid for mss and most.
func isValid(w api.Win, mss, most int) bool {
	if mss < 1 || mss > 1460 || most < mss || most > widest {
		return false
	}
	return w.Cwnd >= mss && w.Cwnd <= most && w.Thresh >= mss && w.Thresh <= most
}

// weighs returns what the document says the weight of x is.
func weighs(x api.Way) int {
	if x.Cwnd < 1 || x.Cwnd > widest || x.Srtt < 1 || x.Srtt > longest {
		return 0
	}
	return x.Cwnd << 20 / x.Srtt
}

// part returns a * b / c, rounded down, for numbers that are not negative.
func part(a, b, c int) int {
	n := new(big.Int).Mul(big.NewInt(int64(a)), big.NewInt(int64(b)))
	return int(n.Quo(n, big.NewInt(int64(c))).Int64())
}

// alphas returns what the document says Alpha is.
func alphas(l []api.Way, i, total int) int {
	if i < 0 || i >= len(l) || len(l) > 4 || total < 1 || total > allowed {
		return 0
	}
	sum := 0
	for _, x := range l {
		sum += weighs(x)
	}
	n := 0
	if sum > 0 {
		n = part(total, weighs(l[i]), sum)
	}
	if n < 1 {
		return 1
	}
	return n
}

// queued returns what the document says Queue is.
func queued(cwnd, srtt, base, mss int) int {
	switch {
	case cwnd < 1, cwnd > widest, srtt < 1, srtt > longest, base < 1, base > longest, mss < 1, mss > 1460, base > srtt:
		return 0
	}
	return part(cwnd, srtt-base, srtt) / mss
}

// judged returns what the document says Verdict is.
func judged(queue, alpha int, slow bool) int {
	if slow {
		if queue > alpha {
			return leave
		}
		return stay
	}
	if queue < alpha {
		return grow
	}
	if queue > alpha {
		return shrink
	}
	return stay
}

// stepped returns what the document says Round makes of x.
func stepped(x state, queue, alpha int) (api.Win, api.Errno) {
	w := x.w
	if !isValid(w, x.mss, x.most) || queue < 0 || queue > widest || alpha < 0 || alpha > widest {
		return api.Win{}, api.ErrArg
	}
	switch judged(queue, alpha, w.Cwnd < w.Thresh) {
	case leave:
		w.Thresh = w.Cwnd
	case grow:
		w.Cwnd += x.mss
	case shrink:
		w.Cwnd -= x.mss
	}
	if w.Cwnd > x.most {
		w.Cwnd = x.most
	}
	if w.Cwnd < x.mss {
		w.Cwnd = x.mss
	}
	return w, api.OK
}

// dice returns a function that returns numbers from 0 on below n, which depend on the seed only.
func dice(seed int) func(n int) int {
	state := uint64(seed)*2862933555777941757 + 3037000493
	return func(n int) int {
		state = state*6364136223846793005 + 1442695040888963407
		return int(state>>3) % n
	}
}

// expectAlpha checks the result of Alpha.
func expectAlpha(t *testing.T, why string, l []api.Way, i, total, want int) {
	t.Helper()
	if got := vegas.Alpha(l, i, total); got != want {
		t.Errorf("%s: way %d of %v, total %d: %d instead of %d", why, i, l, total, got, want)
	}
}

// expectAlphas checks the alphas of all ways of l.
func expectAlphas(t *testing.T, why string, l []api.Way, total int, want ...int) {
	t.Helper()
	if len(l) != len(want) {
		t.Fatalf("%s: %d ways, %d alphas", why, len(l), len(want))
	}
	for i, n := range want {
		expectAlpha(t, why, l, i, total, n)
	}
}

// expectQueue checks the result of Queue.
func expectQueue(t *testing.T, why string, cwnd, srtt, base, mss, want int) {
	t.Helper()
	if got := vegas.Queue(cwnd, srtt, base, mss); got != want {
		t.Errorf("%s: cwnd %d, srtt %d, base %d, mss %d: %d instead of %d", why, cwnd, srtt, base, mss, got, want)
	}
}

// expectVerdict checks the result of Verdict.
func expectVerdict(t *testing.T, why string, queue, alpha int, slow bool, want int) {
	t.Helper()
	if got := vegas.Verdict(queue, alpha, slow); got != want {
		t.Errorf("%s: queue %d, alpha %d, slow %v: %d instead of %d", why, queue, alpha, slow, got, want)
	}
}

// expectVerdicts checks the results of Verdict with slow not set, and set.
func expectVerdicts(t *testing.T, why string, queue, alpha, fast, slow int) {
	t.Helper()
	expectVerdict(t, why, queue, alpha, false, fast)
	expectVerdict(t, why, queue, alpha, true, slow)
}

// expectResults checks the results of Round; and that a window that it returns is valid.
func expectResults(t *testing.T, why string, x state, queue, alpha int, want api.Win, e api.Errno) {
	t.Helper()
	got, is := vegas.Round(x.w, queue, alpha, x.mss, x.most)
	if got != want || is != e {
		t.Errorf("%s: %v, queue %d, alpha %d, mss %d, most %d: %v %d instead of %v %d", why, x.w, queue, alpha, x.mss, x.most, got, is, want, e)
	}
	if is == api.OK && !xmp.May(got, x.mss, x.most) {
		t.Errorf("%s: %v, queue %d, alpha %d, mss %d, most %d: %v is not valid", why, x.w, queue, alpha, x.mss, x.most, got)
	}
}

// expectRound checks what Round makes of a window with fewer segments queued than alpha, with as many, and with more.
func expectRound(t *testing.T, why string, x state, fewer, same, more api.Win) {
	t.Helper()
	for _, alpha := range list(1, 2, 8, 1000, widest-1) {
		expectResults(t, why+", one below alpha", x, alpha-1, alpha, fewer, api.OK)
		expectResults(t, why+", none", x, 0, alpha, fewer, api.OK)
		expectResults(t, why+", just alpha", x, alpha, alpha, same, api.OK)
		expectResults(t, why+", one above alpha", x, alpha+1, alpha, more, api.OK)
		expectResults(t, why+", 2^30", x, widest, alpha, more, api.OK)
	}
	expectResults(t, why+", none, and none may be", x, 0, 0, same, api.OK)
	expectResults(t, why+", one, and none may be", x, 1, 0, more, api.OK)
	expectResults(t, why+", 2^30, and as many may be", x, widest, widest, same, api.OK)
	expectResults(t, why+", one below 2^30", x, widest-1, widest, fewer, api.OK)
}

// P16.1: each way of one to four ways with different windows and times.
func TestAlpha(t *testing.T) {
	expectAlphas(t, "one way", ways(way(3000, 100)), 8, 8)
	expectAlphas(t, "a small one", ways(way(1, 1<<20)), 1000, 1000)
	expectAlphas(t, "two windows", ways(way(3000, 100), way(1000, 100)), 8, 6, 2)
	expectAlphas(t, "two windows, the other way round", ways(way(1000, 100), way(3000, 100)), 8, 2, 6)
	expectAlphas(t, "two times", ways(way(1<<10, 1<<10), way(1<<10, 1<<12)), 10, 8, 2)
	expectAlphas(t, "the double window and time", ways(way(1000, 100), way(2000, 200)), 10, 5, 5)
	expectAlphas(t, "a greater window, but a longer time", ways(way(1<<10, 1<<4), way(1<<11, 1<<6)), 30, 20, 10)
	expectAlphas(t, "three ways", ways(way(1000, 64), way(2000, 64), way(5000, 64)), 8, 1, 2, 5)
	expectAlphas(t, "three times", ways(way(1<<10, 1<<5), way(1<<10, 1<<6), way(1<<10, 1<<5)), 1000, 400, 200, 400)
	expectAlphas(t, "four ways", ways(way(100, 64), way(200, 64), way(300, 64), way(400, 64)), 10, 1, 2, 3, 4)
	expectAlphas(t, "four ways in another order", ways(way(400, 64), way(100, 64), way(300, 64), way(200, 64)), 100000, 40000, 10000, 30000, 20000)
	expectAlphas(t, "four times", ways(way(1<<10, 1<<1), way(1<<10, 1<<2), way(1<<10, 1<<3), way(1<<10, 1<<3)), 16, 8, 4, 2, 2)
	expectAlphas(t, "four equal ones", ways(way(7, 7), way(7, 7), way(7, 7), way(7, 7)), 32, 8, 8, 8, 8)
}

// P16.1: the quotient is rounded down, and so is each weight; below 1 it is 1.
func TestAlphaRounded(t *testing.T) {
	expectAlphas(t, "thirds of 10", ways(way(10, 10), way(10, 10), way(10, 10)), 10, 3, 3, 3)
	expectAlphas(t, "thirds of 11", ways(way(10, 10), way(10, 10), way(10, 10)), 11, 3, 3, 3)
	expectAlphas(t, "thirds of 3", ways(way(10, 10), way(10, 10), way(10, 10)), 3, 1, 1, 1)
	expectAlphas(t, "thirds of 2", ways(way(10, 10), way(10, 10), way(10, 10)), 2, 1, 1, 1)
	expectAlphas(t, "thirds of 1", ways(way(10, 10), way(10, 10), way(10, 10)), 1, 1, 1, 1)
	expectAlphas(t, "quarters of 5", ways(way(1, 2), way(1, 2), way(1, 2), way(1, 2)), 5, 1, 1, 1, 1)
	expectAlphas(t, "quarters of 7", ways(way(1, 2), way(1, 2), way(1, 2), way(1, 2)), 7, 1, 1, 1, 1)
	expectAlphas(t, "just below 2", ways(way(1999, 1<<10), way(2001, 1<<10)), 4, 1, 2)
	expectAlphas(t, "far below 1", ways(way(1, 1<<20), way(widest, 1)), 8, 1, 7)
	expectAlphas(t, "a weight that is nearly 2, beside 1", ways(way(1, 1<<19+1), way(1, 1<<20)), 1000, 500, 500)
	expectAlphas(t, "a weight of 2, beside 1", ways(way(1, 1<<19), way(1, 1<<20)), 1000, 666, 333)
	expectAlphas(t, "a weight of 2 that is nearly 3, beside 1", ways(way(3<<10-1, 1<<30), way(1, 1<<20)), 1000, 666, 333)
	expectAlphas(t, "a weight that is nearly 1, beside 1", ways(way(1, 1<<20+1), way(1, 1<<20)), 1000, 1, 1000)
}

// P16.1: the greatest weights, together with the greatest total.
func TestAlphaGreatest(t *testing.T) {
	big := way(widest, 1)
	expectAlphas(t, "one", ways(big), allowed, allowed)
	expectAlphas(t, "two", ways(big, big), allowed, 1<<19, 1<<19)
	expectAlphas(t, "three", ways(big, big, big), allowed, 349525, 349525, 349525)
	expectAlphas(t, "four", ways(big, big, big, big), allowed, 1<<18, 1<<18, 1<<18, 1<<18)
	expectAlphas(t, "beside the least weight", ways(big, way(1, 1<<20)), allowed, allowed-1, 1)
	expectAlphas(t, "one of which is a little smaller", ways(way(widest-1, 1), big), allowed, 1<<19-1, 1<<19)
	expectAlphas(t, "two of which have half of the window", ways(way(1<<29, 1), big, big, way(1<<29, 1)), 1200, 200, 400, 400, 200)
	expectAlphas(t, "two of which have the double time", ways(way(widest, 2), big, big, way(widest, 2)), 1200, 200, 400, 400, 200)
	expectAlphas(t, "the greatest time", ways(way(widest, longest)), allowed, allowed)
	expectAlphas(t, "the greatest time beside half of it", ways(way(widest, longest), way(widest, longest/2)), 300, 100, 200)
	expectAlphas(t, "the least window that counts at the greatest time", ways(way(1<<20, longest)), 300, 300)
	expectAlphas(t, "the greatest window that does not", ways(way(1<<20-1, longest)), 300, 1)
}

// P16.1: a way without a weight, in each place; it has 1, and so has each one if the sum is 0.
func TestAlphaWithoutWeight(t *testing.T) {
	for why, x := range weightless() {
		for _, total := range list(1, 2, 800, allowed) {
			expectAlphas(t, why+", alone", ways(x), total, 1)
			expectAlphas(t, why+", twice", ways(x, x), total, 1, 1)
			expectAlphas(t, why+", three times", ways(x, x, x), total, 1, 1, 1)
			expectAlphas(t, why+", four times", ways(x, x, x, x), total, 1, 1, 1, 1)
		}
		others := ways(way(1000, 64), way(2000, 64), way(5000, 64))
		parts := list(100, 200, 500)
		for i := range 4 {
			expectAlphas(t, why, slices.Insert(slices.Clone(others), i, x), 800, slices.Insert(slices.Clone(parts), i, 1)...)
		}
		for i := range 2 {
			expectAlphas(t, why+", beside one", slices.Insert(ways(way(5, 7)), i, x), 1460, slices.Insert(list(1460), i, 1)...)
		}
	}
}

// P16.1: the smallest and the greatest values with which a way has a weight.
func TestAlphaWeightEdges(t *testing.T) {
	for _, x := range ways(way(1, 100), way(widest, 100), way(1000, 1), way(widest, longest), way(1, 1), way(widest, 1), way(1, 1<<20)) {
		expectAlphas(t, "edges", ways(x), 1460, 1460)
		expectAlphas(t, "edges", ways(x, x), 1460, 730, 730)
		expectAlphas(t, "edges", ways(way(0, 0), x, way(-1, 5)), 1460, 1, 1460, 1)
	}
}

// P16.1: totals at the edges of their range, and beyond.
func TestAlphaTotals(t *testing.T) {
	x := way(1000, 100)
	for n := 1; n <= 4; n++ {
		l := slices.Repeat(ways(x), n)
		for i := range n {
			expectAlpha(t, "a total of 1", l, i, 1, 1)
			expectAlpha(t, "a total of 2", l, i, 2, max(2/n, 1))
			expectAlpha(t, "a total of 2^20 - 1", l, i, allowed-1, (allowed-1)/n)
			expectAlpha(t, "a total of 2^20", l, i, allowed, allowed/n)
			for _, total := range list(0, -1, -2, -1000, allowed+1, allowed+2, widest, longest, 1<<62, math.MinInt, math.MinInt+1, math.MaxInt) {
				expectAlpha(t, "a total that is not in its range", l, i, total, 0)
				expectAlpha(t, "such a total, and no weights", make([]api.Way, n), i, total, 0)
			}
		}
	}
}

// P16.1: no ways, too many of them, and a way that there is not.
func TestAlphaWithoutWay(t *testing.T) {
	x := way(1000, 100)
	anywhere := list(math.MinInt, -5, -1, 0, 1, 2, 3, 4, 5, 1<<32, math.MaxInt)
	for _, i := range anywhere {
		expectAlpha(t, "no way", nil, i, 8, 0)
		expectAlpha(t, "no way", []api.Way{}, i, 8, 0)
		expectAlpha(t, "five ways", ways(x, x, x, x, x), i, 8, 0)
		expectAlpha(t, "five ways, one with a weight", ways(x, api.Way{}, api.Way{}, api.Way{}, api.Way{}), i, 8, 0)
		expectAlpha(t, "five ways without weights", make([]api.Way, 5), i, 8, 0)
		expectAlpha(t, "many ways", make([]api.Way, 1000), i, 8, 0)
	}
	for n := 1; n <= 4; n++ {
		l := slices.Repeat(ways(x), n)
		for _, i := range anywhere {
			if i < 0 || i >= n {
				expectAlpha(t, "there is no such way", l, i, 8, 0)
				expectAlpha(t, "there is no such way, and no weights", make([]api.Way, n), i, 8, 0)
			}
		}
		expectAlpha(t, "an i of -1", l, -1, 8, 0)
		expectAlpha(t, "an i of the number of ways", l, n, 8, 0)
		expectAlpha(t, "the last i", l, n-1, 8, 8/n)
	}
	hidden := slices.Repeat(ways(x), 4)
	expectAlpha(t, "the way is behind the slice", hidden[:2], 2, 8, 0)
	expectAlpha(t, "the ways behind the slice do not count", hidden[:2], 1, 8, 4)
}

// expectTogether checks the alphas of all ways by the definition; and that they add up to at most total plus the number of ways.
func expectTogether(t *testing.T, l []api.Way, total int) {
	t.Helper()
	sum, weight := 0, 0
	for i, x := range l {
		n := vegas.Alpha(l, i, total)
		expectAlpha(t, "by the definition", l, i, total, alphas(l, i, total))
		if n < 1 || n > total {
			t.Errorf("way %d of %v has %d of %d", i, l, n, total)
		}
		sum += n
		weight += weighs(x)
	}
	if sum > total+len(l) || weight > 0 && sum <= total-len(l) {
		t.Errorf("the alphas of %v add up to %d of %d", l, sum, total)
	}
}

// P16.1, P16.5: up to three ways with values at the edges and within them, by the definition.
func TestAlphaExhaustive(t *testing.T) {
	var some []api.Way
	for _, cwnd := range list(0, 1, 3, widest, widest+1) {
		for _, srtt := range list(0, 1, 3, 1<<20, 1<<20+1, longest, longest+1) {
			some = append(some, way(cwnd, srtt))
		}
	}
	for _, a := range some {
		expectTogether(t, ways(a), 1)
		for _, b := range some {
			expectTogether(t, ways(a, b), 9)
			for _, c := range some {
				expectTogether(t, ways(a, b, c), allowed)
			}
		}
	}
}

// P16.1, P16.5: ways of any numbers, by the definition.
func TestAlphaSeries(t *testing.T) {
	for seed := range 10000 {
		roll := dice(seed)
		var l []api.Way
		for range 1 + roll(4) {
			l = append(l, way(1<<roll(31)+roll(1000)-1, 1<<roll(41)+roll(1000)-1))
		}
		expectTogether(t, l, 1+roll(1<<(1+roll(20))))
	}
}

// P16.5: the alphas of all ways add up to at most total plus the number of ways, also with the least totals.
func TestAlphasTogether(t *testing.T) {
	small, big := way(1, 1<<20), way(widest, 1)
	for _, l := range [][]api.Way{{big, small}, {big, small, small}, {big, small, small, small}, {small, small, small, small}, make([]api.Way, 4)} {
		for total := range 50 {
			expectTogether(t, l, total+1)
		}
	}
	expectAlphas(t, "more than total together", ways(big, small, small, small), 8, 7, 1, 1, 1)
	expectAlphas(t, "four of 1", ways(big, big, big, big), 1, 1, 1, 1, 1)
}

// P16.2: the document's example, and other ones.
func TestQueue(t *testing.T) {
	expectQueue(t, "the example", 10000, 200, 100, 1000, 5)
	expectQueue(t, "half of the time", 10000, 200, 100, 1, 5000)
	expectQueue(t, "three quarters of it", 10000, 400, 100, 1000, 7)
	expectQueue(t, "a tenth of it", 10000, 100, 90, 100, 10)
	expectQueue(t, "base is srtt", 10000, 200, 200, 1, 0)
	expectQueue(t, "base is one below srtt", 10000, 200, 199, 1, 50)
	expectQueue(t, "base is one above srtt", 10000, 200, 201, 1, 0)
	expectQueue(t, "base is far above srtt", 10000, 200, longest, 1, 0)
	expectQueue(t, "just one segment", 2000, 200, 100, 1000, 1)
	expectQueue(t, "one byte less than a segment", 1998, 200, 100, 1000, 0)
	expectQueue(t, "the window is smaller than a segment", 500, 200, 1, 1000, 0)
}

// P16.2: where the first quotient is rounded down, and where the second one is.
func TestQueueRounded(t *testing.T) {
	expectQueue(t, "two thirds of 10", 10, 3, 1, 1, 6)
	expectQueue(t, "a third of 10", 10, 3, 2, 1, 3)
	expectQueue(t, "a third of 2", 2, 3, 2, 1, 0)
	expectQueue(t, "nearly all", 999, 1000, 1, 1, 998)
	expectQueue(t, "a byte that is missing for two segments", 5999, 3, 2, 1000, 1)
	expectQueue(t, "the byte that was", 6000, 3, 2, 1000, 2)
	expectQueue(t, "6.99 segments", 13998, 200, 100, 1000, 6)
	expectQueue(t, "7 segments", 14000, 200, 100, 1000, 7)
	expectQueue(t, "both are rounded down", 1000, 300, 100, 100, 6)
	expectQueue(t, "only after the product", 1999, 200, 1, 1000, 1)
	expectQueue(t, "a time of 1 of a long one", 1000000, longest, longest-1, 1, 0)
	expectQueue(t, "the greatest window, the least part", widest, longest, longest-1, 1, 0)
	expectQueue(t, "the greatest window, nearly a byte", widest, longest, longest-1023, 1, 0)
	expectQueue(t, "the greatest window, a byte", widest, longest, longest-1024, 1, 1)
}

// P16.2: the smallest and the greatest value of each argument, and the greatest product.
func TestQueueEdges(t *testing.T) {
	expectQueue(t, "cwnd of 1", 1, 200, 100, 1, 0)
	expectQueue(t, "cwnd of 2", 2, 200, 100, 1, 1)
	expectQueue(t, "cwnd of 2^30 - 1", widest-1, 200, 100, 1, 1<<29-1)
	expectQueue(t, "cwnd of 2^30", widest, 200, 100, 1, 1<<29)
	expectQueue(t, "srtt of 1", 10000, 1, 1, 1, 0)
	expectQueue(t, "srtt of 2", 10000, 2, 1, 1, 5000)
	expectQueue(t, "srtt of 2^40", 1<<20, longest, longest/2, 1, 1<<19)
	expectQueue(t, "base of 1", 10000, 4, 1, 1, 7500)
	expectQueue(t, "base of 2^40", 10000, longest, longest, 1, 0)
	expectQueue(t, "base of 2^40 - 1", widest, longest, longest-1, 1, 0)
	expectQueue(t, "mss of 1", 10000, 200, 100, 1, 5000)
	expectQueue(t, "mss of 1460", 14600, 200, 100, 1460, 5)
	expectQueue(t, "mss of 1459", 14600, 200, 100, 1459, 5)
	expectQueue(t, "everything is 1", 1, 1, 1, 1, 0)
	expectQueue(t, "the greatest product", widest, longest, 1, 1, widest-1)
	expectQueue(t, "the greatest product, in segments", widest, longest, 1, 1460, 735439)
	expectQueue(t, "the greatest of all arguments", widest, longest, longest, 1460, 0)
}

// P16.2: each argument outside its range by itself.
func TestQueueInvalid(t *testing.T) {
	for _, cwnd := range list(0, -1, -2, -10000, widest+1, widest+2, longest, 1<<62, math.MinInt, math.MinInt+1, math.MaxInt) {
		expectQueue(t, "cwnd", cwnd, 200, 100, 1, 0)
		expectQueue(t, "cwnd", cwnd, longest, 1, 1, 0)
	}
	for _, srtt := range list(0, -1, -2, -200, longest+1, longest+2, 1<<62, math.MinInt, math.MinInt+1, math.MaxInt) {
		expectQueue(t, "srtt", 10000, srtt, 1, 1, 0)
		expectQueue(t, "srtt", 10000, srtt, 100, 1000, 0)
		expectQueue(t, "srtt", widest, srtt, longest, 1, 0)
	}
	for _, base := range list(0, -1, -2, -100, longest+1, longest+2, 1<<62, math.MinInt, math.MinInt+1, math.MaxInt) {
		expectQueue(t, "base", 10000, 200, base, 1, 0)
		expectQueue(t, "base", widest, longest, base, 1, 0)
		expectQueue(t, "base", 10000, 1, base, 1, 0)
	}
	for _, mss := range list(0, -1, -2, -1000, 1461, 1462, widest, 1<<32+1, math.MinInt, math.MinInt+1, math.MaxInt) {
		expectQueue(t, "mss", 10000000, 200, 100, mss, 0)
		expectQueue(t, "mss", widest, longest, 1, mss, 0)
	}
	expectQueue(t, "srtt and base one beyond their range", 10000, longest+1, longest+1, 1, 0)
	expectQueue(t, "srtt beyond it, base at its end", widest, longest+1024, longest, 1, 0)
	expectQueue(t, "negative srtt and base", 10000, -100, -200, 1, 0)
	expectQueue(t, "zeros", 0, 0, 0, 0, 0)
}

// P16.2: small numbers in each place, by the definition.
func TestQueueExhaustive(t *testing.T) {
	for cwnd := -2; cwnd <= 20; cwnd++ {
		for srtt := -2; srtt <= 12; srtt++ {
			for base := -2; base <= 13; base++ {
				for mss := -2; mss <= 6; mss++ {
					expectQueue(t, "by the definition", cwnd, srtt, base, mss, queued(cwnd, srtt, base, mss))
				}
			}
		}
	}
}

// P16.2: numbers at the edges in each place, by the definition.
func TestQueueAllEdges(t *testing.T) {
	edges := list(math.MinInt, -1, 0, 1, 2, 3, 1459, 1460, 1461, 1<<20, widest-1, widest, widest+1, longest-1, longest, longest+1, 1<<62, math.MaxInt)
	for _, cwnd := range edges {
		for _, srtt := range edges {
			for _, base := range edges {
				for _, mss := range edges {
					expectQueue(t, "by the definition", cwnd, srtt, base, mss, queued(cwnd, srtt, base, mss))
				}
			}
		}
	}
}

// P16.2: any numbers, by the definition.
func TestQueueSeries(t *testing.T) {
	for seed := range 20000 {
		roll := dice(seed)
		srtt := 1 + roll(1<<(1+roll(40)))
		cwnd, base, mss := 1+roll(1<<(1+roll(30))), 1+roll(srtt), 1+roll(1460)
		n := vegas.Queue(cwnd, srtt, base, mss)
		expectQueue(t, "by the definition", cwnd, srtt, base, mss, queued(cwnd, srtt, base, mss))
		if n < 0 || n*mss > cwnd {
			t.Errorf("cwnd %d, srtt %d, base %d, mss %d: %d is more than the window", cwnd, srtt, base, mss, n)
		}
	}
}

// P16.3: queue one below, at and above alpha, with slow set and not set.
func TestVerdict(t *testing.T) {
	for _, alpha := range list(-widest, -2, -1, 0, 1, 2, 8, allowed, widest, longest, math.MinInt+1, math.MaxInt-1) {
		expectVerdicts(t, "one below alpha", alpha-1, alpha, grow, stay)
		expectVerdicts(t, "alpha", alpha, alpha, stay, stay)
		expectVerdicts(t, "one above alpha", alpha+1, alpha, shrink, leave)
	}
}

// P16.3: negative numbers, and the least and the greatest int.
func TestVerdictEdges(t *testing.T) {
	expectVerdicts(t, "two negative numbers", -3, -2, grow, stay)
	expectVerdicts(t, "two negative numbers", -2, -3, shrink, leave)
	expectVerdicts(t, "negative below 0", -1, 0, grow, stay)
	expectVerdicts(t, "0 above negative", 0, -1, shrink, leave)
	expectVerdicts(t, "the least below the greatest", math.MinInt, math.MaxInt, grow, stay)
	expectVerdicts(t, "the greatest above the least", math.MaxInt, math.MinInt, shrink, leave)
	expectVerdicts(t, "the least twice", math.MinInt, math.MinInt, stay, stay)
	expectVerdicts(t, "the greatest twice", math.MaxInt, math.MaxInt, stay, stay)
	expectVerdicts(t, "the least below 1", math.MinInt, 1, grow, stay)
	expectVerdicts(t, "1 above the least", 1, math.MinInt, shrink, leave)
	expectVerdicts(t, "the greatest above -1", math.MaxInt, -1, shrink, leave)
	expectVerdicts(t, "-1 below the greatest", -1, math.MaxInt, grow, stay)
	edges := list(math.MinInt, math.MinInt+1, -1<<62, -longest, -2, -1, 0, 1, 2, widest, widest+1, longest, 1<<62, math.MaxInt-1, math.MaxInt)
	for queue := -5; queue <= 5; queue++ {
		edges = append(edges, queue)
	}
	for _, queue := range edges {
		for _, alpha := range edges {
			for _, slow := range yesAndNo() {
				expectVerdict(t, "by the definition", queue, alpha, slow, judged(queue, alpha, slow))
			}
		}
	}
}

// P16.3: the verdicts have the numbers that the document gives them.
func TestVerdictNumbers(t *testing.T) {
	got := [...]int{vegas.Stay, vegas.Grow, vegas.Shrink, vegas.Leave}
	if got != [...]int{stay, grow, shrink, leave} {
		t.Errorf("%v", got)
	}
}

// P16.4: Cwnd one below, at and above Thresh, together with each verdict.
func TestRound(t *testing.T) {
	expectRound(t, "far below Thresh", at(1000, 1500), win(1000, 1500), win(1000, 1500), win(1000, 1000))
	expectRound(t, "one below Thresh", at(1499, 1500), win(1499, 1500), win(1499, 1500), win(1499, 1499))
	expectRound(t, "at Thresh", at(1500, 1500), win(1600, 1500), win(1500, 1500), win(1400, 1500))
	expectRound(t, "one above Thresh", at(1501, 1500), win(1601, 1500), win(1501, 1500), win(1401, 1500))
	expectRound(t, "far above Thresh", at(5000, 100), win(5100, 100), win(5000, 100), win(4900, 100))
	expectRound(t, "an mss of 1", state{win(7, 7), 1, 9}, win(8, 7), win(7, 7), win(6, 7))
	expectRound(t, "an mss of 1, slow", state{win(6, 7), 1, 9}, win(6, 7), win(6, 7), win(6, 6))
	expectRound(t, "an mss of 1460", state{win(4000, 1460), 1460, 9000}, win(5460, 1460), win(4000, 1460), win(2540, 1460))
	expectRound(t, "an mss of 1460, slow", state{win(4000, 4001), 1460, 9000}, win(4000, 4001), win(4000, 4001), win(4000, 4000))
}

// P16.4: Cwnd is limited to the range mss to most, upwards and downwards.
func TestRoundLimited(t *testing.T) {
	expectRound(t, "just up to most", at(8900, 1500), win(9000, 1500), win(8900, 1500), win(8800, 1500))
	expectRound(t, "one less", at(8899, 1500), win(8999, 1500), win(8899, 1500), win(8799, 1500))
	expectRound(t, "one beyond most", at(8901, 1500), win(9000, 1500), win(8901, 1500), win(8801, 1500))
	expectRound(t, "one below most", at(8999, 1500), win(9000, 1500), win(8999, 1500), win(8899, 1500))
	expectRound(t, "at most", at(9000, 1500), win(9000, 1500), win(9000, 1500), win(8900, 1500))
	expectRound(t, "at most, which is Thresh", at(9000, 9000), win(9000, 9000), win(9000, 9000), win(8900, 9000))
	expectRound(t, "just down to mss", at(200, 150), win(300, 150), win(200, 150), win(100, 150))
	expectRound(t, "one more", at(201, 150), win(301, 150), win(201, 150), win(101, 150))
	expectRound(t, "one below mss", at(199, 150), win(299, 150), win(199, 150), win(100, 150))
	expectRound(t, "one above mss", at(101, 100), win(201, 100), win(101, 100), win(100, 100))
	expectRound(t, "at mss, which is Thresh", at(100, 100), win(200, 100), win(100, 100), win(100, 100))
	expectRound(t, "at mss, slow", at(100, 101), win(100, 101), win(100, 101), win(100, 100))
	expectRound(t, "below Thresh, which is most", at(8999, 9000), win(8999, 9000), win(8999, 9000), win(8999, 8999))
	expectRound(t, "mss is most", state{win(100, 100), 100, 100}, win(100, 100), win(100, 100), win(100, 100))
	expectRound(t, "one between mss and most", state{win(101, 100), 100, 101}, win(101, 100), win(101, 100), win(100, 100))
	expectRound(t, "mss is most, 1", state{win(1, 1), 1, 1}, win(1, 1), win(1, 1), win(1, 1))
	expectRound(t, "mss is most, 1460", state{win(1460, 1460), 1460, 1460}, win(1460, 1460), win(1460, 1460), win(1460, 1460))
	expectRound(t, "an mss of 1 at 1", state{win(1, 1), 1, 9}, win(2, 1), win(1, 1), win(1, 1))
	expectRound(t, "beyond 2^30", state{win(widest-1, 1460), 1460, widest}, win(widest, 1460), win(widest-1, 1460), win(widest-1461, 1460))
	expectRound(t, "at 2^30", state{win(widest, widest), 1460, widest}, win(widest, widest), win(widest, widest), win(widest-1460, widest))
	expectRound(t, "below 2^30, slow", state{win(widest-1, widest), 1460, widest}, win(widest-1, widest), win(widest-1, widest), win(widest-1, widest-1))
}

// P16.4: windows, mss and most with the smallest and the greatest values are accepted; Leave changes Thresh alone, Grow and Shrink change Cwnd alone, and Stay changes nothing.
func TestRoundValid(t *testing.T) {
	for why, x := range validStates() {
		for _, queue := range list(0, 1, 2, 1000, widest-1, widest) {
			for _, alpha := range list(0, 1, 2, 1000, widest-1, widest) {
				want, e := stepped(x, queue, alpha)
				expectResults(t, why, x, queue, alpha, want, e)
				got, e := vegas.Round(x.w, queue, alpha, x.mss, x.most)
				if e != api.OK {
					t.Errorf("%s: queue %d, alpha %d: %d", why, queue, alpha, e)
				}
				switch judged(queue, alpha, x.w.Cwnd < x.w.Thresh) {
				case stay:
					if got != x.w {
						t.Errorf("%s: queue %d, alpha %d: %v of %v", why, queue, alpha, got, x.w)
					}
				case leave:
					if got != win(x.w.Cwnd, x.w.Cwnd) {
						t.Errorf("%s: queue %d, alpha %d: %v of %v", why, queue, alpha, got, x.w)
					}
				default:
					if got.Thresh != x.w.Thresh {
						t.Errorf("%s: queue %d, alpha %d: %v of %v", why, queue, alpha, got, x.w)
					}
				}
			}
		}
	}
}

// P16.4: windows, mss and most that are not valid because of one number, each by itself.
func TestRoundInvalid(t *testing.T) {
	for why, x := range invalidStates() {
		if isValid(x.w, x.mss, x.most) {
			t.Errorf("%s: valid", why)
		}
		for _, queue := range list(0, 1, 2, widest, -1, widest+1, math.MinInt, math.MaxInt) {
			for _, alpha := range list(0, 1, 2, widest, -1, widest+1, math.MinInt, math.MaxInt) {
				expectResults(t, why, x, queue, alpha, api.Win{}, api.ErrArg)
			}
		}
	}
}

// P16.4: queue and alpha one below and above their range, and beyond, each by itself, for windows below, at and above Thresh.
func TestRoundInvalidNumbers(t *testing.T) {
	outside := list(-1, -2, -widest, math.MinInt, math.MinInt+1, widest+1, widest+2, longest, 1<<62, math.MaxInt)
	inside := list(0, 1, 2, 8, widest-1, widest)
	for _, x := range []state{at(1499, 1500), at(1500, 1500), at(1501, 1500), at(9000, 9000), at(100, 100), at(100, 9000)} {
		for _, bad := range outside {
			for _, good := range inside {
				expectResults(t, "queue", x, bad, good, api.Win{}, api.ErrArg)
				expectResults(t, "alpha", x, good, bad, api.Win{}, api.ErrArg)
			}
			for _, other := range outside {
				expectResults(t, "both", x, bad, other, api.Win{}, api.ErrArg)
			}
		}
		for _, queue := range inside {
			for _, alpha := range inside {
				want, _ := stepped(x, queue, alpha)
				expectResults(t, "in their range", x, queue, alpha, want, api.OK)
			}
		}
	}
}

// P16.4, P16.5: all small windows and numbers, by the definition.
func TestRoundExhaustive(t *testing.T) {
	for mss := 0; mss <= 4; mss++ {
		for most := mss - 1; most <= 14; most++ {
			for cwnd := mss - 1; cwnd <= most+1; cwnd++ {
				for thresh := mss - 1; thresh <= most+1; thresh++ {
					expectRounds(t, state{win(cwnd, thresh), mss, most}, list(-1, 0, 1, 2, 3, widest, widest+1))
				}
			}
		}
	}
}

// P16.4, P16.5: numbers at the edges in each place, by the definition.
func TestRoundEdges(t *testing.T) {
	edges := list(math.MinInt, -1, 0, 1, 2, 1460, 1461, 2920, widest-1, widest, widest+1, longest, math.MaxInt)
	for _, mss := range list(-1, 0, 1, 1459, 1460, 1461) {
		for _, most := range edges {
			for _, cwnd := range edges {
				for _, thresh := range edges {
					expectRounds(t, state{win(cwnd, thresh), mss, most}, edges)
				}
			}
		}
	}
}

// expectRounds checks what Round makes of x by each two of these numbers; and that no window grows by more than mss.
func expectRounds(t *testing.T, x state, numbers []int) {
	t.Helper()
	for _, queue := range numbers {
		for _, alpha := range numbers {
			want, e := stepped(x, queue, alpha)
			expectResults(t, "by the definition", x, queue, alpha, want, e)
			if got, e := vegas.Round(x.w, queue, alpha, x.mss, x.most); e == api.OK && got.Cwnd-x.w.Cwnd > x.mss {
				t.Errorf("%v grows to %v, mss %d", x.w, got, x.mss)
			}
		}
	}
}

// P16.4, P16.5: whatever happens to a window, it remains valid, and changes in a round by at most mss.
func TestRoundSeries(t *testing.T) {
	for seed := range 1000 {
		roll := dice(seed)
		mss := 1 + roll(1460)
		most := min(mss+1<<roll(31), widest)
		span := most - mss + 1
		x := state{win(mss+roll(span), mss+roll(span)), mss, most}
		for range 50 {
			queue, alpha := roll(5), roll(5)
			want, _ := stepped(x, queue, alpha)
			expectResults(t, "a series", x, queue, alpha, want, api.OK)
			if change := want.Cwnd - x.w.Cwnd; change > mss || -change > mss || want.Thresh > x.w.Thresh {
				t.Fatalf("%v of %v, mss %d", want, x.w, mss)
			}
			x.w = want
		}
	}
}

// P16.2, P16.4: the life of a window on a way of which 1000 bytes fill the time without queues, where 3 segments may be queued.
func TestLife(t *testing.T) {
	const mss, most, base, filled = 100, 100000, 1000, 1000
	x := state{win(800, most), mss, most}
	expect := func(why string, want api.Win) {
		t.Helper()
		srtt := max(base, x.w.Cwnd*base/filled) // what is more than fills the time waits
		w, e := vegas.Round(x.w, vegas.Queue(x.w.Cwnd, srtt, base, mss), 3, mss, most)
		if w != want || e != api.OK {
			t.Fatalf("%s: %v of %v, %d", why, w, x.w, e)
		}
		x.w = w
	}
	expect("nothing is queued", win(800, most))
	x.w.Cwnd = 1600
	expect("6 segments are queued", win(1600, 1600))
	expect("it shrinks", win(1500, 1600))
	expect("it is below Thresh again", win(1500, 1500))
	expect("it shrinks", win(1400, 1500))
	expect("it is below Thresh again", win(1400, 1400))
	expect("it shrinks", win(1300, 1400))
	expect("3 segments are queued", win(1300, 1400))
	x.w = win(1000, 1000)
	expect("nothing is queued", win(1100, 1000))
	expect("1 segment is queued", win(1200, 1000))
	expect("2 segments are queued", win(1300, 1000))
	expect("3 segments are queued", win(1300, 1000))
}

// R3: the ways are not modified, nor what lies behind them.
func TestWaysKept(t *testing.T) {
	whole := ways(way(3000, 100), way(0, 5), way(1000, 100), way(1000, 0), way(widest, 1), way(widest+1, longest+1), way(-1, -1))
	before := slices.Clone(whole)
	for n := range len(whole) + 1 {
		for i := -1; i <= n; i++ {
			for _, total := range list(0, 1, 8, allowed, allowed+1) {
				vegas.Alpha(whole[:n], i, total)
				vegas.Alpha(whole[n:], i, total)
				if !slices.Equal(whole, before) {
					t.Fatalf("%d ways, way %d, total %d: the argument was modified", n, i, total)
				}
			}
		}
	}
}

// R5: nothing is kept from one call to the next one.
func TestCallsAgain(t *testing.T) {
	for range 20 {
		expectAlphas(t, "again", ways(way(3000, 100), way(1000, 100), way(1000, 0)), 8, 6, 2, 1)
		expectAlpha(t, "again", nil, 0, 8, 0)
		expectQueue(t, "again", 10000, 200, 100, 1000, 5)
		expectQueue(t, "again", 10000, 200, 201, 1000, 0)
		expectVerdicts(t, "again", 1, 2, grow, stay)
		expectVerdicts(t, "again", 3, 2, shrink, leave)
		expectResults(t, "again", at(1500, 1500), 1, 2, win(1600, 1500), api.OK)
		expectResults(t, "again", at(1499, 1500), 3, 2, win(1499, 1499), api.OK)
		expectResults(t, "again", at(1500, 1500), -1, 2, api.Win{}, api.ErrArg)
		expectResults(t, "again, with another mss", state{win(1500, 1500), 1000, 9000}, 3, 2, win(1000, 1500), api.OK)
	}
}
