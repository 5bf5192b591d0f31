package xmp_test

import (
	"math"
	"slices"
	"testing"

	"fourinhand/api"
	"fourinhand/xmp"
)

const (
	widest  = 1 << 30 // the greatest most, and the greatest Cwnd of a way with a weight
	longest = 1 << 40 // the greatest number of bytes, and the greatest Srtt of a way with a weight
)

func win(cwnd, thresh int) api.Win { return api.Win{Cwnd: cwnd, Thresh: thresh} }
func way(cwnd, srtt int) api.Way   { return api.Way{Cwnd: cwnd, Srtt: srtt} }
func ways(l ...api.Way) []api.Way  { return l }
func list(l ...int) []int          { return l }
func yesAndNo() []bool             { return []bool{false, true} }

// state is a window with the limits that it is in.
type state struct {
	w         api.Win
	mss, most int
}

// validStates returns windows that are valid, with the smallest and the greatest values of each field and limit among them.
func validStates() map[string]state {
	return map[string]state{
		"an ordinary one":                {win(1000, 1500), 100, 9000},
		"an mss of 1":                    {win(1000, 1500), 1, 9000},
		"an mss of 1460":                 {win(1460, 1500), 1460, 9000},
		"a most of mss":                  {win(100, 100), 100, 100},
		"a most of mss + 1":              {win(100, 101), 100, 101},
		"a most of 2^30":                 {win(1000, 1500), 100, widest},
		"an mss and a most of 1":         {win(1, 1), 1, 1},
		"an mss and a most of 1460":      {win(1460, 1460), 1460, 1460},
		"the smallest and the greatest":  {win(1000, 1500), 1, widest},
		"a Cwnd of mss":                  {win(100, 1500), 100, 9000},
		"a Cwnd of most":                 {win(9000, 1500), 100, 9000},
		"a Cwnd of 1":                    {win(1, 1500), 1, 9000},
		"a Cwnd of 2^30":                 {win(widest, 1500), 100, widest},
		"a Thresh of mss":                {win(1000, 100), 100, 9000},
		"a Thresh of most":               {win(1000, 9000), 100, 9000},
		"a Thresh of 1":                  {win(1000, 1), 1, 9000},
		"a Thresh of 2^30":               {win(1000, widest), 100, widest},
		"a Cwnd and a Thresh of mss":     {win(100, 100), 100, 9000},
		"a Cwnd and a Thresh of most":    {win(9000, 9000), 100, 9000},
		"a Cwnd and a Thresh of 2^30":    {win(widest, widest), 1460, widest},
		"a Cwnd of mss, Thresh of most":  {win(100, 9000), 100, 9000},
		"a Cwnd of most, Thresh of mss":  {win(9000, 100), 100, 9000},
		"Cwnd and Thresh are one number": {win(1000, 1000), 100, 9000},
	}
}

// invalidStates returns windows that are not valid because of one number, and why they are that.
func invalidStates() map[string]state {
	w := win(1000, 1500)
	small := win(1, 1) // valid for all limits that begin at 1 or below
	return map[string]state{
		"an mss of 0":                       {w, 0, 9000},
		"an mss of 0 and small windows":     {small, 0, 9000},
		"an mss of -1":                      {w, -1, 9000},
		"an mss of -1 and small windows":    {small, -1, 1},
		"an mss of 1461":                    {win(2000, 2500), 1461, 9000},
		"an mss of 1461, most of it":        {win(1461, 1461), 1461, 1461},
		"the least mss":                     {w, math.MinInt, 9000},
		"the greatest mss":                  {w, math.MaxInt, 9000},
		"the greatest mss and most":         {win(math.MaxInt, math.MaxInt), math.MaxInt, math.MaxInt},
		"a most one below mss":              {win(100, 100), 100, 99},
		"a most one below mss, windows too": {win(99, 99), 100, 99},
		"a most of 0":                       {small, 1, 0},
		"a most of -1":                      {small, 1, -1},
		"a most of 2^30 + 1":                {w, 100, widest + 1},
		"a most of 2^30 + 1, windows too":   {win(widest+1, widest+1), 100, widest + 1},
		"the least most":                    {w, 100, math.MinInt},
		"the greatest most":                 {w, 100, math.MaxInt},
		"a Cwnd one below mss":              {win(99, 1500), 100, 9000},
		"a Cwnd one above most":             {win(9001, 1500), 100, 9000},
		"a Cwnd of 0":                       {win(0, 1500), 1, 9000},
		"a Cwnd of -1":                      {win(-1, 1500), 1, 9000},
		"a Cwnd of -1000":                   {win(-1000, 1500), 100, 9000},
		"a Cwnd of 2^30 + 1":                {win(widest+1, 1500), 100, widest},
		"the least Cwnd":                    {win(math.MinInt, 1500), 100, 9000},
		"the greatest Cwnd":                 {win(math.MaxInt, 1500), 100, 9000},
		"a Thresh one below mss":            {win(1000, 99), 100, 9000},
		"a Thresh one above most":           {win(1000, 9001), 100, 9000},
		"a Thresh of 0":                     {win(1000, 0), 1, 9000},
		"a Thresh of -1":                    {win(1000, -1), 1, 9000},
		"a Thresh of -1500":                 {win(1000, -1500), 100, 9000},
		"a Thresh of 2^30 + 1":              {win(1000, widest+1), 100, widest},
		"the least Thresh":                  {win(1000, math.MinInt), 100, 9000},
		"the greatest Thresh":               {win(1000, math.MaxInt), 100, 9000},
		"the zero value":                    {win(0, 0), 1, 9000},
		"everything is 0":                   {},
	}
}

// weightless returns ways that have no weight, and why.
func weightless() map[string]api.Way {
	return map[string]api.Way{
		"a Cwnd of 0":                  way(0, 100),
		"a Cwnd of -1":                 way(-1, 100),
		"the least Cwnd":               way(math.MinInt, 100),
		"a Cwnd of 2^30 + 1":           way(widest+1, 100),
		"the greatest Cwnd":            way(math.MaxInt, 100),
		"an Srtt of 0":                 way(1000, 0),
		"an Srtt of -1":                way(1000, -1),
		"the least Srtt":               way(1000, math.MinInt),
		"an Srtt of 2^40 + 1":          way(widest, longest+1),
		"the greatest Srtt":            way(widest, math.MaxInt),
		"the zero value":               {},
		"negative Cwnd and Srtt":       way(-1000, -100),
		"a weight rounded down to 0":   way(1, 1<<20+1),
		"a weight far below 1":         way(1, longest),
		"a greater one rounded down":   way(1000, 1000<<20+1),
		"the greatest one rounded off": way(1<<20-1, longest),
	}
}

// isValid reports whether the document calls w valid for mss and most.
func isValid(w api.Win, mss, most int) bool {
	if mss < 1 || mss > 1460 || most < mss || most > widest {
		return false
	}
	return w.Cwnd >= mss && w.Cwnd <= most && w.Thresh >= mss && w.Thresh <= most
}

// weighs returns what the document says the weight of x is.
func weighs(x api.Way) int {
	if x.Cwnd < 1 || x.Cwnd > widest || x.Srtt < 1 || x.Srtt > longest {
		return 0
	}
	return x.Cwnd << 20 / x.Srtt
}

// shares returns what the document says Share is.
func shares(l []api.Way, i, mss int) int {
	if mss < 1 || mss > 1460 || len(l) > 4 || i < 0 || i >= len(l) {
		return 0
	}
	sum := 0
	for _, x := range l {
		sum += weighs(x)
	}
	if sum == 0 {
		return 0
	}
	return mss * weighs(l[i]) / sum // at most 1460 * 2^50
}

// limited returns w with both fields in the range mss to most.
func limited(w api.Win, mss, most int) api.Win {
	for _, n := range []*int{&w.Cwnd, &w.Thresh} {
		if *n > most {
			*n = most
		}
		if *n < mss {
			*n = mss
		}
	}
	return w
}

// slow returns what the document says Slow makes of a window that is valid.
func slow(w api.Win, bytes, mss, most int) (api.Win, api.Errno) {
	if bytes < 0 || bytes > longest {
		return api.Win{}, api.ErrArg
	}
	if w.Cwnd < w.Thresh {
		w.Cwnd += bytes
		if w.Cwnd > w.Thresh {
			w.Cwnd = w.Thresh
		}
	}
	return limited(w, mss, most), api.OK
}

// grown returns what the document says Round makes of a window that is valid.
func grown(w api.Win, growth, mss, most int) (api.Win, api.Errno) {
	if growth < 0 || growth > mss {
		return api.Win{}, api.ErrArg
	}
	if !(w.Cwnd < w.Thresh) {
		w.Cwnd += growth
	}
	return limited(w, mss, most), api.OK
}

// cut returns what the document says Cut makes of a window that is valid.
func cut(w api.Win, part, mss, most int) (api.Win, api.Errno) {
	if part < 0 || part > 1024 {
		return api.Win{}, api.ErrArg
	}
	w.Cwnd -= (w.Cwnd * part) >> 11
	w.Thresh = w.Cwnd
	return limited(w, mss, most), api.OK
}

// lost returns what the document says Loss makes of a window that is valid.
func lost(w api.Win, all bool, mss, most int) (api.Win, api.Errno) {
	w.Thresh = w.Cwnd >> 1
	if w.Thresh < mss+mss {
		w.Thresh = mss + mss
	}
	w.Cwnd = w.Thresh
	if all {
		w.Cwnd = mss
	}
	return limited(w, mss, most), api.OK
}

// stepper is one of the functions that take a number beside the window.
type stepper struct {
	name string
	call func(w api.Win, n, mss, most int) (api.Win, api.Errno)
	want func(w api.Win, n, mss, most int) (api.Win, api.Errno)
}

// steppers returns Slow, Round, Cut and both kinds of Loss, which accept every number here.
func steppers() []stepper {
	l := []stepper{{"Slow", xmp.Slow, slow}, {"Round", xmp.Round, grown}, {"Cut", xmp.Cut, cut}}
	for _, all := range yesAndNo() {
		l = append(l, stepper{"Loss", func(w api.Win, n, mss, most int) (api.Win, api.Errno) {
			return xmp.Loss(w, all, mss, most)
		}, func(w api.Win, n, mss, most int) (api.Win, api.Errno) {
			return lost(w, all, mss, most)
		}})
	}
	return l
}

// dice returns a function that returns numbers from 0 on below n, which depend on the seed only.
func dice(seed int) func(n int) int {
	state := uint64(seed)*2862933555777941757 + 3037000493
	return func(n int) int {
		state = state*6364136223846793005 + 1442695040888963407
		return int(state>>3) % n
	}
}

// expectShare checks the result of Share.
func expectShare(t *testing.T, why string, l []api.Way, i, mss, want int) {
	t.Helper()
	if got := xmp.Share(l, i, mss); got != want {
		t.Errorf("%s: way %d of %v, mss %d: %d instead of %d", why, i, l, mss, got, want)
	}
}

// expectShares checks the shares of all ways of l.
func expectShares(t *testing.T, why string, l []api.Way, mss int, want ...int) {
	t.Helper()
	if len(l) != len(want) {
		t.Fatalf("%s: %d ways, %d shares", why, len(l), len(want))
	}
	for i, n := range want {
		expectShare(t, why, l, i, mss, n)
	}
}

// expectStep checks the results of one of the functions that change a window by a number.
func expectStep(t *testing.T, why string, s stepper, x state, n int, want api.Win, e api.Errno) {
	t.Helper()
	got, is := s.call(x.w, n, x.mss, x.most)
	if got != want || is != e {
		t.Errorf("%s: %s of %v by %d, mss %d, most %d: %v %d instead of %v %d", why, s.name, x.w, n, x.mss, x.most, got, is, want, e)
	}
	if is == api.OK && !isValid(got, x.mss, x.most) {
		t.Errorf("%s: %s of %v by %d, mss %d, most %d: %v is not valid", why, s.name, x.w, n, x.mss, x.most, got)
	}
}

// expectSlow, expectRound, expectCut and expectLoss check the results of calls that succeed.
func expectSlow(t *testing.T, why string, x state, bytes int, want api.Win) {
	t.Helper()
	expectStep(t, why, steppers()[0], x, bytes, want, api.OK)
}

func expectRound(t *testing.T, why string, x state, growth int, want api.Win) {
	t.Helper()
	expectStep(t, why, steppers()[1], x, growth, want, api.OK)
}

func expectCut(t *testing.T, why string, x state, part int, want api.Win) {
	t.Helper()
	expectStep(t, why, steppers()[2], x, part, want, api.OK)
}

func expectLoss(t *testing.T, why string, x state, some, all api.Win) {
	t.Helper()
	expectStep(t, why, steppers()[3], x, 0, some, api.OK)
	expectStep(t, why, steppers()[4], x, 0, all, api.OK)
}

// at returns windows in the ordinary limits, 100 and 9000.
func at(cwnd, thresh int) state { return state{win(cwnd, thresh), 100, 9000} }

// P15.1, P15.2: windows, mss and most with the smallest and the greatest values are accepted.
func TestValid(t *testing.T) {
	for why, x := range validStates() {
		if !isValid(x.w, x.mss, x.most) || !xmp.May(x.w, x.mss, x.most) {
			t.Errorf("%s: not valid", why)
		}
		for _, s := range steppers() {
			for _, n := range list(0, 1, x.mss, 1024, 1<<20, longest) {
				want, e := s.want(x.w, n, x.mss, x.most)
				expectStep(t, why, s, x, n, want, e)
			}
		}
	}
}

// P15.1, P15.2: windows, mss and most that are not valid because of one number, each by itself.
func TestInvalid(t *testing.T) {
	for why, x := range invalidStates() {
		if isValid(x.w, x.mss, x.most) || xmp.May(x.w, x.mss, x.most) {
			t.Errorf("%s: valid", why)
		}
		for _, s := range steppers() {
			for _, n := range list(0, 1, x.mss, 50, -1, 1025, longest, longest+1, math.MinInt, math.MaxInt) {
				expectStep(t, why, s, x, n, api.Win{}, api.ErrArg)
			}
		}
	}
}

// P15.1, P15.2: numbers at the edges in each place, by the definition.
func TestMayEdges(t *testing.T) {
	edges := list(math.MinInt, -widest, -1, 0, 1, 2, 1459, 1460, 1461, 9000, widest-1, widest, widest+1, longest, math.MaxInt)
	for _, mss := range edges {
		for _, most := range edges {
			for _, cwnd := range edges {
				for _, thresh := range edges {
					w := win(cwnd, thresh)
					if xmp.May(w, mss, most) != isValid(w, mss, most) {
						t.Errorf("%v, mss %d, most %d: %v", w, mss, most, xmp.May(w, mss, most))
					}
				}
			}
		}
	}
}

// P15.1: small numbers in each place, by the definition.
func TestMayExhaustive(t *testing.T) {
	const below, above = -2, 7
	for mss := below; mss <= above; mss++ {
		for most := below; most <= above; most++ {
			for cwnd := below; cwnd <= above; cwnd++ {
				for thresh := below; thresh <= above; thresh++ {
					w := win(cwnd, thresh)
					if xmp.May(w, mss, most) != isValid(w, mss, most) {
						t.Errorf("%v, mss %d, most %d: %v", w, mss, most, xmp.May(w, mss, most))
					}
				}
			}
		}
	}
}

// P15.1: each way of one to four ways with different windows and times.
func TestShare(t *testing.T) {
	expectShares(t, "one way", ways(way(3000, 100)), 1000, 1000)
	expectShares(t, "a small one", ways(way(1, 1<<20)), 1460, 1460)
	expectShares(t, "two windows", ways(way(3000, 100), way(1000, 100)), 1000, 750, 250)
	expectShares(t, "two windows, the other way round", ways(way(1000, 100), way(3000, 100)), 1000, 250, 750)
	expectShares(t, "two times", ways(way(1<<10, 1<<10), way(1<<10, 1<<12)), 1000, 800, 200)
	expectShares(t, "the double window and time", ways(way(1000, 100), way(2000, 200)), 1000, 500, 500)
	expectShares(t, "a greater window, but a longer time", ways(way(1<<10, 1<<4), way(1<<11, 1<<6)), 300, 200, 100)
	expectShares(t, "three ways", ways(way(1000, 64), way(2000, 64), way(5000, 64)), 800, 100, 200, 500)
	expectShares(t, "three times", ways(way(1<<10, 1<<5), way(1<<10, 1<<6), way(1<<10, 1<<5)), 1000, 400, 200, 400)
	expectShares(t, "four ways", ways(way(100, 64), way(200, 64), way(300, 64), way(400, 64)), 1000, 100, 200, 300, 400)
	expectShares(t, "four ways in another order", ways(way(400, 64), way(100, 64), way(300, 64), way(200, 64)), 1000, 400, 100, 300, 200)
	expectShares(t, "four times", ways(way(1<<10, 1<<1), way(1<<10, 1<<2), way(1<<10, 1<<3), way(1<<10, 1<<3)), 1200, 600, 300, 150, 150)
	expectShares(t, "four equal ones", ways(way(7, 7), way(7, 7), way(7, 7), way(7, 7)), 1460, 365, 365, 365, 365)
}

// P15.1: the document's example.
func TestShareExample(t *testing.T) {
	for _, cwnd := range list(1, 2, 3, 1000, 14600, widest-1, widest) {
		for _, srtt := range list(1, 2, 3, 100, 1<<20) {
			for _, mss := range list(1, 2, 3, 100, 999, 1000, 1459, 1460) {
				expectShares(t, "the same window and time", ways(way(cwnd, srtt), way(cwnd, srtt)), mss, mss/2, mss/2)
			}
		}
	}
}

// P15.1: both divisions are rounded down, and rounded by themselves.
func TestShareRounded(t *testing.T) {
	expectShares(t, "thirds", ways(way(10, 10), way(10, 10), way(10, 10)), 1000, 333, 333, 333)
	expectShares(t, "thirds of 1", ways(way(10, 10), way(10, 10), way(10, 10)), 1, 0, 0, 0)
	expectShares(t, "thirds of 2", ways(way(10, 10), way(20, 10)), 2, 0, 1)
	expectShares(t, "one below the whole", ways(way(widest, 1), way(1, 1<<20)), 1460, 1459, 0)
	expectShares(t, "nearly halves", ways(way(999, 1<<10), way(1001, 1<<10)), 1000, 499, 500)
	expectShares(t, "a weight of 1 that is nearly 2, beside 1", ways(way(1, 1<<19+1), way(1, 1<<20)), 1000, 500, 500)
	expectShares(t, "a weight of 2, beside 1", ways(way(1, 1<<19), way(1, 1<<20)), 1000, 666, 333)
	expectShares(t, "a weight of 2 that is nearly 3, beside 1", ways(way(3<<10-1, 1<<30), way(1, 1<<20)), 1000, 666, 333)
	expectShares(t, "a weight that is nearly 1", ways(way(1, 1<<20+1), way(1, 1<<20)), 1000, 0, 1000)
	expectShares(t, "weights that differ by 1", ways(way(1, 1<<19), way(3, 1<<20)), 1000, 400, 600)
}

// P15.1: the greatest weights.
func TestShareGreatest(t *testing.T) {
	big := way(widest, 1)
	expectShares(t, "one", ways(big), 1460, 1460)
	expectShares(t, "two", ways(big, big), 1460, 730, 730)
	expectShares(t, "three", ways(big, big, big), 1460, 486, 486, 486)
	expectShares(t, "four", ways(big, big, big, big), 1460, 365, 365, 365, 365)
	expectShares(t, "four of 1", ways(big, big, big, big), 1, 0, 0, 0, 0)
	expectShares(t, "one of which is a little smaller", ways(way(widest-1, 1), big), 1460, 729, 730)
	expectShares(t, "one of which has half of the window", ways(way(1<<29, 1), big, big, way(1<<29, 1)), 1200, 200, 400, 400, 200)
	expectShares(t, "one of which has the double time", ways(way(widest, 2), big, big, way(widest, 2)), 1200, 200, 400, 400, 200)
	expectShares(t, "the greatest time", ways(way(widest, longest)), 1460, 1460)
	expectShares(t, "the greatest time beside half of it", ways(way(widest, longest), way(widest, longest/2)), 300, 100, 200)
	expectShares(t, "the least window that counts at the greatest time", ways(way(1<<20, longest)), 1460, 1460)
	expectShares(t, "the greatest window that does not", ways(way(1<<20-1, longest)), 1460, 0)
}

// P15.1: a way without a weight, in each place.
func TestShareWithoutWeight(t *testing.T) {
	for why, x := range weightless() {
		expectShares(t, why+", alone", ways(x), 1000, 0)
		expectShares(t, why+", twice", ways(x, x), 1000, 0, 0)
		expectShares(t, why+", four times", ways(x, x, x, x), 1460, 0, 0, 0, 0)
		others := ways(way(1000, 64), way(2000, 64), way(5000, 64))
		parts := list(100, 200, 500)
		for i := range 4 {
			expectShares(t, why, slices.Insert(slices.Clone(others), i, x), 800, slices.Insert(slices.Clone(parts), i, 0)...)
		}
		for i := range 2 {
			expectShares(t, why+", beside one", slices.Insert(ways(way(5, 7)), i, x), 1460, slices.Insert(list(1460), i, 0)...)
		}
	}
}

// P15.1: the smallest and the greatest values with which a way has a weight.
func TestShareWeightEdges(t *testing.T) {
	for _, x := range ways(way(1, 100), way(widest, 100), way(1000, 1), way(widest, longest), way(1, 1), way(widest, 1), way(1, 1<<20)) {
		expectShares(t, "edges", ways(x), 1460, 1460)
		expectShares(t, "edges", ways(x, x), 1460, 730, 730)
		expectShares(t, "edges", ways(way(0, 0), x, way(-1, 5)), 1460, 0, 1460, 0)
	}
}

// P15.1: no ways, too many of them, a way that there is not, and an mss that is not valid.
func TestShareInvalid(t *testing.T) {
	x := way(1000, 100)
	anywhere := list(math.MinInt, -5, -1, 0, 1, 2, 3, 4, 5, 1<<32, math.MaxInt)
	for _, i := range anywhere {
		expectShare(t, "no way", nil, i, 1000, 0)
		expectShare(t, "no way", []api.Way{}, i, 1000, 0)
		expectShare(t, "five ways", ways(x, x, x, x, x), i, 1000, 0)
		expectShare(t, "five ways, one with a weight", ways(x, api.Way{}, api.Way{}, api.Way{}, api.Way{}), i, 1000, 0)
		expectShare(t, "many ways", make([]api.Way, 1000), i, 1000, 0)
	}
	for n := 1; n <= 4; n++ {
		l := slices.Repeat(ways(x), n)
		for _, i := range anywhere {
			if i < 0 || i >= n {
				expectShare(t, "there is no such way", l, i, 1000, 0)
			}
		}
		expectShare(t, "an i of -1", l, -1, 1000, 0)
		expectShare(t, "an i of the number of ways", l, n, 1000, 0)
		expectShare(t, "the last i", l, n-1, 1000, 1000/n)
		for i := range n {
			for _, mss := range list(0, -1, 1461, -1000, 2000, 1<<32+1, math.MinInt, math.MaxInt) {
				expectShare(t, "an mss that is not valid", l, i, mss, 0)
			}
			expectShare(t, "an mss of 1", l, i, 1, 1/n)
			expectShare(t, "an mss of 1460", l, i, 1460, 1460/n)
		}
	}
	hidden := slices.Repeat(ways(x), 4)
	expectShare(t, "the way is behind the slice", hidden[:2], 2, 1000, 0)
}

// P15.1, P15.3: up to three ways of small numbers, by the definition.
func TestShareExhaustive(t *testing.T) {
	var some []api.Way
	for _, cwnd := range list(-1, 0, 1, 2, 3, widest, widest+1) {
		for _, srtt := range list(0, 1, 3, 1<<20, 1<<20+1, longest, longest+1) {
			some = append(some, way(cwnd, srtt))
		}
	}
	for _, a := range some {
		expectTogether(t, ways(a), 1460)
		for _, b := range some {
			expectTogether(t, ways(a, b), 1459)
			for _, c := range some {
				expectTogether(t, ways(a, b, c), 1000)
			}
		}
	}
}

// P15.1, P15.3: ways of any numbers, by the definition.
func TestShareSeries(t *testing.T) {
	for seed := range 20000 {
		roll := dice(seed)
		var l []api.Way
		for range roll(5) {
			l = append(l, way(1<<roll(31)+roll(1000)-1, 1<<roll(41)+roll(1000)-1))
		}
		expectTogether(t, l, 1+roll(1460))
	}
}

// expectTogether checks the shares of all ways by the definition; and that they add up to at most mss, and to nearly all of it if some way has a weight.
func expectTogether(t *testing.T, l []api.Way, mss int) {
	t.Helper()
	sum, count := 0, 0
	for i, x := range l {
		n := xmp.Share(l, i, mss)
		expectShare(t, "by the definition", l, i, mss, shares(l, i, mss))
		if n < 0 || weighs(x) == 0 && n > 0 {
			t.Errorf("way %d of %v has %d of %d", i, l, n, mss)
		}
		sum += n
		if weighs(x) > 0 {
			count++
		}
	}
	if sum > mss || count > 0 && sum <= mss-count || count == 0 && sum != 0 || count == 1 && sum != mss {
		t.Errorf("the shares of %v add up to %d of %d", l, sum, mss)
	}
}

// P15.3: a single way with a weight has all, whatever its numbers are.
func TestShareAlone(t *testing.T) {
	for _, mss := range list(1, 2, 100, 999, 1459, 1460) {
		for _, cwnd := range list(1, 2, 3, 7, 1000, 1<<20-1, 1<<20, 1<<20+1, widest-1, widest) {
			for _, srtt := range list(1, 2, 3, 7, 1000, 1<<20-1, 1<<20, 1<<20+1, longest-1, longest) {
				want := mss
				if weighs(way(cwnd, srtt)) == 0 {
					want = 0
				}
				expectShare(t, "alone", ways(way(cwnd, srtt)), 0, mss, want)
			}
		}
	}
}

// P15.2: Cwnd one below, at and above Thresh, and bytes that end below, at and beyond it.
func TestSlow(t *testing.T) {
	expectSlow(t, "below Thresh", at(1000, 1500), 300, win(1300, 1500))
	expectSlow(t, "one less than up to it", at(1000, 1500), 499, win(1499, 1500))
	expectSlow(t, "just up to it", at(1000, 1500), 500, win(1500, 1500))
	expectSlow(t, "one beyond it", at(1000, 1500), 501, win(1500, 1500))
	expectSlow(t, "far beyond it", at(1000, 1500), 100000, win(1500, 1500))
	expectSlow(t, "no bytes", at(1000, 1500), 0, win(1000, 1500))
	expectSlow(t, "one byte", at(1000, 1500), 1, win(1001, 1500))
	expectSlow(t, "2^40 bytes", at(1000, 1500), longest, win(1500, 1500))
	expectSlow(t, "one below Thresh, no bytes", at(1499, 1500), 0, win(1499, 1500))
	expectSlow(t, "one below Thresh, one byte", at(1499, 1500), 1, win(1500, 1500))
	expectSlow(t, "one below Thresh, more bytes", at(1499, 1500), 300, win(1500, 1500))
	for _, bytes := range list(0, 1, 300, 1<<30, longest-1, longest) {
		expectSlow(t, "at Thresh", at(1500, 1500), bytes, win(1500, 1500))
		expectSlow(t, "one above Thresh", at(1501, 1500), bytes, win(1501, 1500))
		expectSlow(t, "far above Thresh", at(9000, 100), bytes, win(9000, 100))
		expectSlow(t, "mss is most", state{win(100, 100), 100, 100}, bytes, win(100, 100))
	}
	expectSlow(t, "up to most", at(100, 9000), 8900, win(9000, 9000))
	expectSlow(t, "more than up to most", at(100, 9000), 8901, win(9000, 9000))
	expectSlow(t, "up to 2^30", state{win(1, widest), 1, widest}, widest-1, win(widest, widest))
	expectSlow(t, "one less than up to 2^30", state{win(1, widest), 1, widest}, widest-2, win(widest-1, widest))
	expectSlow(t, "2^40 bytes up to 2^30", state{win(1, widest), 1, widest}, longest, win(widest, widest))
}

// P15.2: Cwnd one below, at and above Thresh, and growth up to mss and up to most.
func TestRound(t *testing.T) {
	for _, growth := range list(0, 1, 50, 99, 100) {
		expectRound(t, "below Thresh", at(1000, 1500), growth, win(1000, 1500))
		expectRound(t, "one below Thresh", at(1499, 1500), growth, win(1499, 1500))
		expectRound(t, "at Thresh", at(1500, 1500), growth, win(1500+growth, 1500))
		expectRound(t, "one above Thresh", at(1501, 1500), growth, win(1501+growth, 1500))
		expectRound(t, "far above Thresh", at(5000, 100), growth, win(5000+growth, 100))
		expectRound(t, "just up to most", at(9000-growth, 1500), growth, win(9000, 1500))
		expectRound(t, "at most", at(9000, 1500), growth, win(9000, 1500))
		expectRound(t, "at most, which is Thresh", at(9000, 9000), growth, win(9000, 9000))
		expectRound(t, "mss is most", state{win(100, 100), 100, 100}, growth, win(100, 100))
	}
	expectRound(t, "one less than up to most", at(8900, 1500), 99, win(8999, 1500))
	expectRound(t, "one beyond most", at(8901, 1500), 100, win(9000, 1500))
	expectRound(t, "an mss of 1", state{win(7, 7), 1, 9}, 1, win(8, 7))
	expectRound(t, "an mss of 1460", state{win(2000, 1460), 1460, 9000}, 1460, win(3460, 1460))
	expectRound(t, "beyond 2^30", state{win(widest-1, 1460), 1460, widest}, 1460, win(widest, 1460))
	expectRound(t, "at 2^30", state{win(widest, widest), 1460, widest}, 1460, win(widest, widest))
}

// P15.2: each kind of part, where the product is rounded down, and where mss limits Cwnd.
func TestCut(t *testing.T) {
	for _, thresh := range list(100, 999, 1000, 1001, 9000) {
		expectCut(t, "no part", at(1000, thresh), 0, win(1000, 1000))
		expectCut(t, "the whole", at(1000, thresh), 1024, win(500, 500))
		expectCut(t, "half of it", at(1000, thresh), 512, win(750, 750))
		expectCut(t, "an eighth of it", at(1000, thresh), 128, win(938, 938))
		expectCut(t, "the whole less one", at(1000, thresh), 1023, win(501, 501))
		expectCut(t, "too small a part", at(1000, thresh), 1, win(1000, 1000))
	}
	expectCut(t, "the example", state{win(10000, 10000), 100, 20000}, 1024, win(5000, 5000))
	expectCut(t, "an odd one", at(1001, 100), 1024, win(501, 501))
	expectCut(t, "one below the product of 2048", at(2047, 100), 1, win(2047, 2047))
	expectCut(t, "the product of 2048", at(2048, 100), 1, win(2047, 2047))
	expectCut(t, "one above it", at(2049, 100), 1, win(2048, 2048))
	expectCut(t, "one below twice 2048", at(4095, 100), 1, win(4094, 4094))
	expectCut(t, "twice 2048", at(4096, 100), 1, win(4094, 4094))
	expectCut(t, "two parts of one less than 1024", at(1023, 100), 2, win(1023, 1023))
	expectCut(t, "two parts of 1024", at(1024, 100), 2, win(1023, 1023))
	expectCut(t, "one above mss", at(201, 100), 1024, win(101, 101))
	expectCut(t, "just mss", at(200, 300), 1024, win(100, 100))
	expectCut(t, "just mss, by rounding down", at(199, 300), 1024, win(100, 100))
	expectCut(t, "one below mss", at(198, 300), 1024, win(100, 100))
	expectCut(t, "far below mss", at(100, 300), 1024, win(100, 100))
	expectCut(t, "at mss, a small part", at(100, 9000), 21, win(100, 100))
	expectCut(t, "at mss, no part", at(100, 9000), 0, win(100, 100))
	expectCut(t, "an mss of 1", state{win(1, 5), 1, 5}, 1024, win(1, 1))
	expectCut(t, "an mss of 1, a window of 2", state{win(2, 5), 1, 5}, 1024, win(1, 1))
	expectCut(t, "mss is most", state{win(100, 100), 100, 100}, 1024, win(100, 100))
	expectCut(t, "2^30", state{win(widest, 1460), 1460, widest}, 1024, win(widest/2, widest/2))
	expectCut(t, "2^30, the smallest part", state{win(widest, 1460), 1460, widest}, 1, win(widest-1<<19, widest-1<<19))
	expectCut(t, "2^30, no part", state{win(widest, 1460), 1460, widest}, 0, win(widest, widest))
}

// P15.2: half of Cwnd one below, at and above 2 * mss, odd numbers, and where most limits.
func TestLoss(t *testing.T) {
	for _, thresh := range list(100, 500, 1000, 1500, 9000) {
		expectLoss(t, "an ordinary one", at(1000, thresh), win(500, 500), win(100, 500))
		expectLoss(t, "half one below 2 * mss", at(398, thresh), win(200, 200), win(100, 200))
		expectLoss(t, "half one below, and an odd Cwnd", at(399, thresh), win(200, 200), win(100, 200))
		expectLoss(t, "half of 2 * mss", at(400, thresh), win(200, 200), win(100, 200))
		expectLoss(t, "half of 2 * mss, and an odd Cwnd", at(401, thresh), win(200, 200), win(100, 200))
		expectLoss(t, "half one above 2 * mss", at(402, thresh), win(201, 201), win(100, 201))
		expectLoss(t, "an odd Cwnd", at(1001, thresh), win(500, 500), win(100, 500))
		expectLoss(t, "mss", at(100, thresh), win(200, 200), win(100, 200))
		expectLoss(t, "most", at(9000, thresh), win(4500, 4500), win(100, 4500))
	}
	expectLoss(t, "2 * mss is most", state{win(100, 100), 100, 200}, win(200, 200), win(100, 200))
	expectLoss(t, "2 * mss is one above most", state{win(100, 100), 100, 199}, win(199, 199), win(100, 199))
	expectLoss(t, "2 * mss is one below most", state{win(201, 100), 100, 201}, win(200, 200), win(100, 200))
	expectLoss(t, "2 * mss is above most, one above mss", state{win(100, 101), 100, 101}, win(101, 101), win(100, 101))
	expectLoss(t, "mss is most", state{win(100, 100), 100, 100}, win(100, 100), win(100, 100))
	expectLoss(t, "mss is most, 1", state{win(1, 1), 1, 1}, win(1, 1), win(1, 1))
	expectLoss(t, "mss is most, 1460", state{win(1460, 1460), 1460, 1460}, win(1460, 1460), win(1460, 1460))
	expectLoss(t, "an mss of 1", state{win(5, 1), 1, 9}, win(2, 2), win(1, 2))
	expectLoss(t, "an mss of 1460", state{win(5840, 1460), 1460, 9000}, win(2920, 2920), win(1460, 2920))
	expectLoss(t, "2^30", state{win(widest, 1460), 1460, widest}, win(widest/2, widest/2), win(1460, widest/2))
	expectLoss(t, "2^30 - 1", state{win(widest-1, 1460), 1460, widest}, win(widest/2-1, widest/2-1), win(1460, widest/2-1))
}

// P15.2: numbers one below and above their ranges, and beyond, for windows below, at and above Thresh.
func TestInvalidNumbers(t *testing.T) {
	limits := list(longest, 100, 1024)
	for i, s := range steppers()[:3] {
		greatest := limits[i]
		for _, x := range []state{at(1499, 1500), at(1500, 1500), at(1501, 1500), at(9000, 9000), at(100, 100)} {
			for _, n := range list(-1, -2, -100, -longest, math.MinInt, math.MinInt+1, greatest+1, greatest+2, 1<<41, 1<<62, math.MaxInt) {
				expectStep(t, "not in its range", s, x, n, api.Win{}, api.ErrArg)
			}
			for _, n := range list(0, 1, greatest-1, greatest) {
				want, _ := s.want(x.w, n, x.mss, x.most)
				expectStep(t, "in its range", s, x, n, want, api.OK)
			}
		}
	}
	for _, mss := range list(1, 2, 1024, 1025, 1459, 1460) {
		x := state{win(2000, 1500), mss, 9000}
		x.w.Thresh = max(x.w.Thresh, mss)
		expectRound(t, "a growth of mss", x, mss, win(2000+mss, x.w.Thresh))
		expectStep(t, "a growth of mss + 1", steppers()[1], x, mss+1, api.Win{}, api.ErrArg)
		expectStep(t, "a growth of -1", steppers()[1], x, -1, api.Win{}, api.ErrArg)
		want, _ := cut(x.w, 1024, x.mss, x.most)
		expectCut(t, "a part of 1024, whatever mss is", x, 1024, want)
	}
}

// P15.2, P15.3: all small windows and numbers, by the definition.
func TestStepsExhaustive(t *testing.T) {
	for mss := 1; mss <= 4; mss++ {
		for most := mss; most <= 14; most++ {
			for cwnd := mss - 1; cwnd <= most+1; cwnd++ {
				for thresh := mss - 1; thresh <= most+1; thresh++ {
					expectSteps(t, state{win(cwnd, thresh), mss, most}, list(-1, 0, 1, 2, 3, 4, 5, 6, 15, 200, 512, 1023, 1024, 1025))
				}
			}
		}
	}
}

// P15.2, P15.3: numbers at the edges in each place, by the definition.
func TestStepsEdges(t *testing.T) {
	edges := list(math.MinInt, -1, 0, 1, 1024, 1025, 1460, 1461, 2920, 2921, widest-1, widest, widest+1, longest, longest+1, math.MaxInt)
	for _, mss := range list(-1, 0, 1, 1024, 1460, 1461) {
		for _, most := range edges {
			for _, cwnd := range edges {
				for _, thresh := range edges {
					expectSteps(t, state{win(cwnd, thresh), mss, most}, edges)
				}
			}
		}
	}
}

// expectSteps checks what all functions make of x by each of these numbers.
func expectSteps(t *testing.T, x state, numbers []int) {
	t.Helper()
	for _, s := range steppers() {
		for _, n := range numbers {
			want, e := api.Win{}, api.ErrArg
			if isValid(x.w, x.mss, x.most) {
				want, e = s.want(x.w, n, x.mss, x.most)
			}
			expectStep(t, "by the definition", s, x, n, want, e)
		}
	}
}

// P15.3: whatever happens to a window, it remains in the range mss to most.
func TestWindowsRemain(t *testing.T) {
	for seed := range 300 {
		roll := dice(seed)
		mss := 1 + roll(1460)
		most := min(mss+1<<roll(31), widest)
		span := most - mss + 1
		x := state{win(mss+roll(span), mss+roll(span)), mss, most}
		for range 100 {
			s := steppers()[roll(5)]
			n := 0
			switch s.name {
			case "Slow":
				n = roll(1 << (1 + roll(40)))
			case "Round":
				n = roll(mss + 1)
			case "Cut":
				n = roll(1025)
			}
			want, _ := s.want(x.w, n, mss, most)
			expectStep(t, "a series", s, x, n, want, api.OK)
			if !xmp.May(want, mss, most) {
				t.Fatalf("%v is not valid for %d and %d", want, mss, most)
			}
			x.w = want
		}
	}
}

// P15.3: once Cwnd is not less than Thresh, a window grows by at most mss in a round, however many bytes arrive in it.
func TestRoundsGrowSlowly(t *testing.T) {
	for seed := range 500 {
		roll := dice(seed)
		mss := 1 + roll(1460)
		thresh := mss + roll(10000)
		w := win(thresh+roll(10000), thresh)
		for range 50 {
			before := w
			for range roll(5) {
				w, _ = xmp.Slow(w, roll(longest), mss, widest)
			}
			growth := roll(mss + 1)
			after, e := xmp.Round(w, growth, mss, widest)
			if e != api.OK || after.Cwnd-before.Cwnd != growth || after.Thresh != thresh {
				t.Fatalf("mss %d, growth %d: %v of %v, %d", mss, growth, after, before, e)
			}
			w = after
		}
	}
}

// P15.3: the windows of several ways with the same time grow in a round by at most mss together.
func TestWaysGrowTogether(t *testing.T) {
	for seed := range 500 {
		roll := dice(seed)
		mss := 1 + roll(1460)
		var l []api.Way
		for range 1 + roll(4) {
			l = append(l, way(mss+roll(100000), 1+roll(1000000)))
		}
		sum := 0
		for i, x := range l {
			w, e := xmp.Round(win(x.Cwnd, mss), xmp.Share(l, i, mss), mss, widest)
			if e != api.OK || w.Cwnd < x.Cwnd {
				t.Fatalf("%v: way %d grows to %v, %d", l, i, w, e)
			}
			sum += w.Cwnd - x.Cwnd
		}
		if sum > mss || sum <= mss-len(l) {
			t.Errorf("%v: together %d of %d", l, sum, mss)
		}
	}
}

// P15.2: the life of a window: it grows fast, then slowly, shrinks by marks, and begins anew.
func TestSeries(t *testing.T) {
	x := at(100, 9000)
	expectSlow(t, "the first bytes", x, 100, win(200, 9000))
	x.w = win(200, 9000)
	expectSlow(t, "twice as many", x, 200, win(400, 9000))
	x.w = win(400, 9000)
	expectRound(t, "a round does not count yet", x, 100, win(400, 9000))
	expectCut(t, "all bytes were marked", x, 1024, win(200, 200))
	x.w = win(200, 200)
	expectSlow(t, "bytes do not count any more", x, 200, win(200, 200))
	expectRound(t, "a round does", x, 100, win(300, 200))
	x.w = win(300, 200)
	expectLoss(t, "some is lost", x, win(200, 200), win(100, 200))
	x.w = win(100, 200)
	expectSlow(t, "it grows fast up to the half", x, 500, win(200, 200))
}

// R3: the ways are not modified, nor what lies behind them.
func TestWaysKept(t *testing.T) {
	whole := ways(way(3000, 100), way(0, 5), way(1000, 100), way(1000, 0), way(widest, 1), way(widest+1, longest+1), way(-1, -1))
	before := slices.Clone(whole)
	for n := range len(whole) + 1 {
		for i := -1; i <= n; i++ {
			for _, mss := range list(0, 1, 1000, 1460, 1461) {
				xmp.Share(whole[:n], i, mss)
				xmp.Share(whole[n:], i, mss)
				if !slices.Equal(whole, before) {
					t.Fatalf("%d ways, way %d, mss %d: the argument was modified", n, i, mss)
				}
			}
		}
	}
}

// R5: nothing is kept from one call to the next one.
func TestCallsAgain(t *testing.T) {
	for range 20 {
		expectSlow(t, "again", at(1000, 1500), 300, win(1300, 1500))
		expectRound(t, "again", at(1500, 1500), 50, win(1550, 1500))
		expectStep(t, "again", steppers()[1], at(1500, 1500), 101, api.Win{}, api.ErrArg)
		expectCut(t, "again", at(1000, 1500), 128, win(938, 938))
		expectLoss(t, "again", at(1000, 1500), win(500, 500), win(100, 500))
		expectRound(t, "again, with a greater mss", state{win(1500, 1500), 1000, 9000}, 101, win(1601, 1500))
		expectLoss(t, "again, with a greater mss", state{win(1500, 1500), 1000, 9000}, win(2000, 2000), win(1000, 2000))
		expectShares(t, "again", ways(way(3000, 100), way(1000, 100), way(1000, 0)), 1000, 750, 250, 0)
		expectShare(t, "again", nil, 0, 1000, 0)
	}
}
