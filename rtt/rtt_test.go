package rtt_test

import (
	"math"
	"math/big"
	"testing"

	"fourinhand/api"
	"fourinhand/rtt"
)

const (
	last    = 1 << 60 // the greatest time
	longest = 1 << 40 // the greatest sample, and the longest wait
)

// times are numbers that Srtt, Var and Rto may be, and numbers that they may not be.
func times() []int {
	return []int{math.MinInt, -last - 1, -last, -1, 0, 1, last - 1, last, last + 1, api.Range, math.MaxInt}
}

// shifts are numbers that Shift may be, and numbers that it may not be.
func shifts() []int {
	return []int{math.MinInt, -16, -1, 0, 1, 15, 16, 17, 64, 1 << 32, math.MaxInt}
}

// isValid reports whether the document calls r valid.
func isValid(r api.Rtt) bool {
	for _, n := range []int{r.Srtt, r.Var, r.Rto} {
		if n < 0 || n > last {
			return false
		}
	}
	if !r.Has && (r.Srtt != 0 || r.Var != 0) {
		return false
	}
	return r.Shift >= 0 && r.Shift <= 16
}

// valid returns valid estimates, among them those with the smallest and the greatest value of each field.
func valid() []api.Rtt {
	return []api.Rtt{
		{}, {Shift: 1}, {Shift: 15}, {Shift: 16}, {Rto: 1}, {Rto: 240000}, {Rto: last}, {Rto: last, Shift: 16},
		{Has: true}, {Has: true, Srtt: 1}, {Has: true, Var: 1}, {Has: true, Rto: 1}, {Has: true, Shift: 1}, {Has: true, Shift: 16},
		{Has: true, Srtt: last}, {Has: true, Var: last}, {Has: true, Rto: last}, {Has: true, Srtt: last, Var: last, Rto: last, Shift: 16},
		{Has: true, Srtt: last - 1, Var: last - 1, Rto: last - 1, Shift: 15}, {Has: true, Srtt: last, Rto: 5}, {Has: true, Var: last - 3, Shift: 2},
		{Has: true, Srtt: 80000, Var: 40000, Rto: 240000}, {Has: true, Srtt: 80000, Var: 40000, Rto: 240000, Shift: 3},
		{Has: true, Srtt: 100, Var: 10, Rto: 1100}, {Has: true, Srtt: 101, Var: 11, Rto: 1101, Shift: 7}, {Has: true, Srtt: 500, Var: 333, Rto: 1500},
		{Has: true, Srtt: longest, Var: longest / 2, Rto: longest}, {Has: true, Srtt: longest + 1, Var: longest - 1, Rto: longest + 1, Shift: 16},
		{Has: true, Srtt: 987654321, Var: 123456789, Rto: 1000000000}, {Has: true, Srtt: 1<<53 + 1, Var: 1<<54 + 3, Rto: 1<<53 + 1, Shift: 9},
	}
}

// invalid returns estimates that are not valid, and why they are that.
func invalid() map[string]api.Rtt {
	return map[string]api.Rtt{
		"a negative Srtt":               {Has: true, Srtt: -1, Var: 40000, Rto: 240000},
		"the least Srtt":                {Has: true, Srtt: math.MinInt, Var: 40000, Rto: 240000},
		"an Srtt above 2^60":            {Has: true, Srtt: last + 1, Var: 40000, Rto: 240000},
		"the greatest Srtt":             {Has: true, Srtt: math.MaxInt, Var: 40000, Rto: 240000},
		"a negative Var":                {Has: true, Srtt: 80000, Var: -1, Rto: 240000},
		"the least Var":                 {Has: true, Srtt: 80000, Var: math.MinInt, Rto: 240000},
		"a Var above 2^60":              {Has: true, Srtt: 80000, Var: last + 1, Rto: 240000},
		"the greatest Var":              {Has: true, Srtt: 80000, Var: math.MaxInt, Rto: 240000},
		"a negative Rto":                {Has: true, Srtt: 80000, Var: 40000, Rto: -1},
		"the least Rto":                 {Has: true, Srtt: 80000, Var: 40000, Rto: math.MinInt},
		"an Rto above 2^60":             {Has: true, Srtt: 80000, Var: 40000, Rto: last + 1},
		"the greatest Rto":              {Has: true, Srtt: 80000, Var: 40000, Rto: math.MaxInt},
		"a negative Shift":              {Has: true, Srtt: 80000, Var: 40000, Rto: 240000, Shift: -1},
		"the least Shift":               {Has: true, Srtt: 80000, Var: 40000, Rto: 240000, Shift: math.MinInt},
		"a Shift of 17":                 {Has: true, Srtt: 80000, Var: 40000, Rto: 240000, Shift: 17},
		"the greatest Shift":            {Has: true, Srtt: 80000, Var: 40000, Rto: 240000, Shift: math.MaxInt},
		"an Srtt of 1 without Has":      {Srtt: 1},
		"an Srtt of 2^60 without Has":   {Srtt: last, Rto: 240000},
		"an Srtt of -1 without Has":     {Srtt: -1},
		"a Var of 1 without Has":        {Var: 1},
		"a Var of 2^60 without Has":     {Var: last, Rto: 240000},
		"a Var of -1 without Has":       {Var: -1},
		"an Srtt and a Var without Has": {Srtt: 80000, Var: 40000, Rto: 240000},
		"a negative Rto without Has":    {Rto: -1},
		"an Rto above 2^60 without Has": {Rto: last + 1},
		"a negative Shift without Has":  {Shift: -1},
		"a Shift of 17 without Has":     {Shift: 17},
		"each field as small as an int can be": {
			Has: true, Srtt: math.MinInt, Var: math.MinInt, Rto: math.MinInt, Shift: math.MinInt,
		},
		"each field as great as an int can be": {
			Has: true, Srtt: math.MaxInt, Var: math.MaxInt, Rto: math.MaxInt, Shift: math.MaxInt,
		},
	}
}

// bounds are pairs of a least and a most that Sample accepts.
func bounds() [][2]int {
	return [][2]int{
		{1, longest}, {1, 1}, {longest, longest}, {1000, 1000000}, {1, 1000}, {1001, 1001}, {240000, 240000}, {240001, longest}, {1, 239999}, {longest - 1, longest},
	}
}

// samples are numbers that a sample may be.
func samples() []int {
	return []int{0, 1, 2, 3, 7, 92, 93, 99, 100, 101, 107, 108, 109, 498, 500, 502, 79999, 80000, 80001, 160000, 123456789, longest - 1, longest}
}

// result is what Sample or Double returns.
type result struct {
	r api.Rtt
	e api.Errno
}

func of(r api.Rtt, e api.Errno) result { return result{r, e} }

// expect checks the results of a call that succeeds.
func expect(t *testing.T, call string, got result, want api.Rtt) {
	t.Helper()
	if got != (result{want, api.OK}) {
		t.Errorf("%s: %+v instead of %+v", call, got, want)
	}
}

// expectArg checks that a call returns ErrArg and the zero value.
func expectArg(t *testing.T, call string, got result) {
	t.Helper()
	if got != (result{api.Rtt{}, api.ErrArg}) {
		t.Errorf("%s: %+v instead of ErrArg", call, got)
	}
}

func number(n int) *big.Int { return big.NewInt(int64(n)) }

// average returns (part * old + sample) / whole, rounded down, in exact numbers.
func average(part, old, sample, whole int) int {
	n := new(big.Int).Mul(number(part), number(old))
	n.Add(n, number(sample))
	return int(n.Div(n, number(whole)).Int64())
}

// sampled returns a valid estimate after a sample, as the document defines it, in exact numbers.
func sampled(r api.Rtt, took, least, most int) api.Rtt {
	x := api.Rtt{Has: true, Srtt: took, Var: took / 2}
	if r.Has {
		off := r.Srtt - took
		if off < 0 {
			off = -off
		}
		x.Var = average(3, r.Var, off, 4)
		x.Srtt = average(7, r.Srtt, took, 8)
	}
	rto := new(big.Int).Mul(number(4), number(x.Var))
	if rto.Cmp(number(1000)) < 0 {
		rto = number(1000)
	}
	rto.Add(rto, number(x.Srtt))
	switch {
	case rto.Cmp(number(least)) < 0:
		x.Rto = least
	case rto.Cmp(number(most)) > 0:
		x.Rto = most
	default:
		x.Rto = int(rto.Int64())
	}
	return x
}

// waited returns the time to wait of a valid estimate, as the document defines it, in exact numbers.
func waited(r api.Rtt, most int) int {
	n := number(1000000)
	if r.Has {
		n = number(r.Rto)
	}
	n.Mul(n, new(big.Int).Exp(number(2), number(r.Shift), nil))
	if n.Cmp(number(most)) > 0 {
		return most
	}
	return int(n.Int64())
}

// dice returns a function that returns numbers from 0 on below n, which depend on the seed only.
func dice(seed uint64) func(n int) int {
	state := seed*2862933555777941757 + 3037000493
	return func(n int) int {
		state = state*6364136223846793005 + 1442695040888963407
		return int(state>>20) % n
	}
}

// P8.1: May of valid estimates.
func TestMayValid(t *testing.T) {
	for _, r := range valid() {
		if !rtt.May(r) {
			t.Errorf("valid: %+v", r)
		}
	}
}

// P8.1, P8.2: estimates that are not valid: May, ErrArg of Sample and Double without an estimate, and a Wait of 0.
func TestInvalid(t *testing.T) {
	for why, r := range invalid() {
		if rtt.May(r) {
			t.Errorf("%s: May", why)
		}
		expectArg(t, why+": Sample", of(rtt.Sample(r, 80000, 1000, 1000000)))
		expectArg(t, why+": Double", of(rtt.Double(r)))
		for _, most := range []int{1, 1000000, longest} {
			if n := rtt.Wait(r, most); n != 0 {
				t.Errorf("%s: Wait of %d", why, n)
			}
		}
	}
}

// P8.1, P8.2: all estimates of numbers at the edges of what they may be, by the definition.
func TestValidity(t *testing.T) {
	for _, has := range []bool{false, true} {
		for _, srtt := range times() {
			for _, v := range times() {
				for _, rto := range times() {
					for _, shift := range shifts() {
						checkValidity(t, api.Rtt{Has: has, Srtt: srtt, Var: v, Rto: rto, Shift: shift})
					}
				}
			}
		}
	}
}

// checkValidity checks that all functions agree with the definition whether r is valid.
func checkValidity(t *testing.T, r api.Rtt) {
	t.Helper()
	if rtt.May(r) != isValid(r) {
		t.Errorf("%+v: May %t", r, rtt.May(r))
	}
	s, d, n := of(rtt.Sample(r, 7, 1, longest)), of(rtt.Double(r)), rtt.Wait(r, longest)
	if isValid(r) {
		expect(t, "Sample", s, sampled(r, 7, 1, longest))
		if d.e != api.OK || !rtt.May(d.r) || n != waited(r, longest) {
			t.Errorf("%+v: %+v, wait %d", r, d, n)
		}
	} else if zero := (result{api.Rtt{}, api.ErrArg}); s != zero || d != zero || n != 0 {
		t.Errorf("%+v: %+v, %+v, wait %d", r, s, d, n)
	}
}

// P8.1: a first sample.
func TestSampleFirst(t *testing.T) {
	expect(t, "80000", of(rtt.Sample(api.Rtt{}, 80000, 1, longest)), api.Rtt{Has: true, Srtt: 80000, Var: 40000, Rto: 240000})
	expect(t, "0", of(rtt.Sample(api.Rtt{}, 0, 1, longest)), api.Rtt{Has: true, Rto: 1000})
	expect(t, "1", of(rtt.Sample(api.Rtt{}, 1, 1, longest)), api.Rtt{Has: true, Srtt: 1, Rto: 1001})
	expect(t, "7", of(rtt.Sample(api.Rtt{}, 7, 1, longest)), api.Rtt{Has: true, Srtt: 7, Var: 3, Rto: 1007})
	expect(t, "80001", of(rtt.Sample(api.Rtt{}, 80001, 1, longest)), api.Rtt{Has: true, Srtt: 80001, Var: 40000, Rto: 240001})
	expect(t, "2^40", of(rtt.Sample(api.Rtt{}, longest, 1, longest)), api.Rtt{Has: true, Srtt: longest, Var: longest / 2, Rto: longest})
	expect(t, "2^40 - 1", of(rtt.Sample(api.Rtt{}, longest-1, 1, longest)), api.Rtt{Has: true, Srtt: longest - 1, Var: longest/2 - 1, Rto: longest})
	expect(t, "with a previous Rto and Shift", of(rtt.Sample(api.Rtt{Rto: last, Shift: 16}, 80000, 1, longest)), api.Rtt{Has: true, Srtt: 80000, Var: 40000, Rto: 240000})
}

// P8.1: a later sample, above and below Srtt and equal to it. (Var is computed with the previous Srtt.)
func TestSampleLater(t *testing.T) {
	r := api.Rtt{Has: true, Srtt: 80000, Var: 40000, Rto: 240000}
	expect(t, "above", of(rtt.Sample(r, 160000, 1, longest)), api.Rtt{Has: true, Srtt: 90000, Var: 50000, Rto: 290000})
	expect(t, "below", of(rtt.Sample(r, 40000, 1, longest)), api.Rtt{Has: true, Srtt: 75000, Var: 40000, Rto: 235000})
	expect(t, "equal", of(rtt.Sample(r, 80000, 1, longest)), api.Rtt{Has: true, Srtt: 80000, Var: 30000, Rto: 200000})
	expect(t, "0", of(rtt.Sample(r, 0, 1, longest)), api.Rtt{Has: true, Srtt: 70000, Var: 50000, Rto: 270000})
	// (3 * 40000 + 2^40 - 80000) / 4 and (7 * 80000 + 2^40) / 8.
	expect(t, "2^40", of(rtt.Sample(r, longest, 1, longest)), api.Rtt{Has: true, Srtt: 70000 + 1<<37, Var: 10000 + 1<<38, Rto: longest})
	expect(t, "0 after 0", of(rtt.Sample(api.Rtt{Has: true}, 0, 1, longest)), api.Rtt{Has: true, Rto: 1000})
	expect(t, "800 after 0", of(rtt.Sample(api.Rtt{Has: true}, 800, 1, longest)), api.Rtt{Has: true, Srtt: 100, Var: 200, Rto: 1100})
}

// P8.1: divisions that do not come out even are rounded down.
func TestSampleRounded(t *testing.T) {
	r := api.Rtt{Has: true, Srtt: 100, Var: 10, Rto: 1100}
	for _, c := range [][3]int{ // the sample, Srtt in eighths: 700 more, and Var in quarters: 30 more
		{100, 100, 7}, {101, 100, 7}, {102, 100, 8}, {105, 100, 8}, {106, 100, 9}, {107, 100, 9}, {108, 101, 9}, {110, 101, 10},
		{99, 99, 7}, {98, 99, 8}, {93, 99, 9}, {92, 99, 9}, {91, 98, 9}, {90, 98, 10}, {1, 87, 32}, {0, 87, 32},
	} {
		expect(t, "sample", of(rtt.Sample(r, c[0], 1, longest)), api.Rtt{Has: true, Srtt: c[1], Var: c[2], Rto: c[1] + 1000})
	}
}

// P8.1: estimates as great as they may be, of which no intermediate result is cut off.
func TestSampleGreatest(t *testing.T) {
	whole := api.Rtt{Has: true, Srtt: last, Var: last, Rto: last, Shift: 16}
	expect(t, "0", of(rtt.Sample(whole, 0, 1, longest)), api.Rtt{Has: true, Srtt: 7 << 57, Var: last, Rto: longest})
	expect(t, "8", of(rtt.Sample(whole, 8, 1, longest)), api.Rtt{Has: true, Srtt: 7<<57 + 1, Var: last - 2, Rto: longest})
	expect(t, "7", of(rtt.Sample(whole, 7, 5, 5)), api.Rtt{Has: true, Srtt: 7 << 57, Var: last - 2, Rto: 5})
	expect(t, "2^40", of(rtt.Sample(whole, longest, 1, longest)), api.Rtt{Has: true, Srtt: 7<<57 + 1<<37, Var: last - 1<<38, Rto: longest})
	expect(t, "the greatest Var", of(rtt.Sample(api.Rtt{Has: true, Var: last}, 0, 1, longest)), api.Rtt{Has: true, Var: 3 << 58, Rto: longest})
	expect(t, "the greatest Srtt", of(rtt.Sample(api.Rtt{Has: true, Srtt: last}, 0, 1, longest)), api.Rtt{Has: true, Srtt: 7 << 57, Var: 1 << 58, Rto: longest})
	expect(t, "nearly the greatest", of(rtt.Sample(api.Rtt{Has: true, Srtt: last - 1, Var: last - 1}, 1, 1, 9)), api.Rtt{Has: true, Srtt: 7<<57 - 1, Var: last - 2, Rto: 9})
}

// P8.1: Rto where 1000, 4 * Var, least and most decide.
func TestSampleRto(t *testing.T) {
	for _, c := range [][4]int{
		{498, 1, longest, 1498}, {499, 1, longest, 1499}, {500, 1, longest, 1500}, {501, 1, longest, 1501}, // a Var of 249 and 250
		{502, 1, longest, 1506}, {504, 1, longest, 1512}, // a Var of 251 and 252
		{80000, 239999, longest, 240000}, {80000, 240000, longest, 240000}, {80000, 240001, longest, 240001}, {80000, longest, longest, longest},
		{80000, 1, 239999, 239999}, {80000, 1, 240000, 240000}, {80000, 1, 240001, 240000}, {80000, 1, 1, 1}, {80000, 1000, 1000, 1000},
		{80000, 240000, 240000, 240000}, {80000, 300000, 300000, 300000},
		{0, 999, longest, 1000}, {0, 1000, longest, 1000}, {0, 1001, longest, 1001}, {0, 1, 999, 999}, {0, 1, 1000, 1000}, {0, 1, 1, 1},
		{longest, 1, longest, longest}, {longest, 1, longest - 1, longest - 1}, {1 << 38, 1, longest, 3 << 38}, {366503875925, 1, longest, longest - 3},
	} {
		r := api.Rtt{Has: true, Srtt: c[0], Var: c[0] / 2, Rto: c[3]}
		expect(t, "first sample", of(rtt.Sample(api.Rtt{}, c[0], c[1], c[2])), r)
	}
	for _, c := range [][2]int{{0, 1500}, {332, 1500}, {333, 1500}, {334, 1500}, {335, 1504}, {336, 1508}} { // Var becomes 3 / 4 of what it was
		r, e := rtt.Sample(api.Rtt{Has: true, Srtt: 500, Var: c[0]}, 500, 1, longest)
		if e != api.OK || r.Rto != c[1] || r.Srtt != 500 {
			t.Errorf("a Var of %d: %+v %d", c[0], r, e)
		}
	}
}

// P8.1: a sample sets Has, and Shift to 0.
func TestSampleResets(t *testing.T) {
	for shift := range 17 {
		expect(t, "first", of(rtt.Sample(api.Rtt{Shift: shift}, 80000, 1, longest)), api.Rtt{Has: true, Srtt: 80000, Var: 40000, Rto: 240000})
		r := api.Rtt{Has: true, Srtt: 80000, Var: 40000, Rto: 240000, Shift: shift}
		expect(t, "later", of(rtt.Sample(r, 80000, 1, longest)), api.Rtt{Has: true, Srtt: 80000, Var: 30000, Rto: 200000})
	}
}

// P8.1: numbers that Sample does not accept, each by itself and beside an estimate that is not valid.
func TestSampleArguments(t *testing.T) {
	for why, c := range map[string][3]int{
		"a sample of -1":                     {-1, 1, longest},
		"a sample of -2^40":                  {-longest, 1, longest},
		"the least sample":                   {math.MinInt, 1, longest},
		"a sample of 2^40 + 1":               {longest + 1, 1, longest},
		"a sample of 2^60":                   {last, 1, longest},
		"the greatest sample":                {math.MaxInt, 1, longest},
		"a least of 0":                       {80000, 0, longest},
		"a least of -1":                      {80000, -1, longest},
		"the least least":                    {80000, math.MinInt, longest},
		"a least above most":                 {80000, 1001, 1000},
		"a least above a most of 2^40":       {80000, longest + 1, longest},
		"the greatest least":                 {80000, math.MaxInt, longest},
		"a most of 0":                        {80000, 1, 0},
		"a least and a most of 0":            {80000, 0, 0},
		"a negative least and most":          {80000, -7, -5},
		"the least most":                     {80000, 1, math.MinInt},
		"a most of 2^40 + 1":                 {80000, 1, longest + 1},
		"a least and a most of 2^40 + 1":     {80000, longest + 1, longest + 1},
		"the greatest most":                  {80000, 1, math.MaxInt},
		"a sample of -1, and a least of 0":   {-1, 0, longest},
		"nothing that Sample accepts at all": {-1, 0, longest + 1},
	} {
		for _, r := range valid() {
			expectArg(t, why, of(rtt.Sample(r, c[0], c[1], c[2])))
		}
		for _, r := range invalid() {
			expectArg(t, why+", no estimate", of(rtt.Sample(r, c[0], c[1], c[2])))
		}
	}
}

// P8.1: valid estimates, samples and bounds of all kinds, by the definition.
func TestSampleExact(t *testing.T) {
	for _, r := range valid() {
		for _, took := range append(samples(), min(r.Srtt, longest)) {
			for _, b := range bounds() {
				got := of(rtt.Sample(r, took, b[0], b[1]))
				expect(t, "Sample", got, sampled(r, took, b[0], b[1]))
				if !rtt.May(got.r) {
					t.Errorf("%+v after %d is not valid", got.r, took)
				}
			}
		}
	}
}

// P8.1: small estimates and samples of all kinds, by the definition.
func TestSampleSmall(t *testing.T) {
	for srtt := range 20 {
		for v := range 20 {
			for took := range 24 {
				r := api.Rtt{Has: true, Srtt: srtt, Var: v}
				expect(t, "Sample", of(rtt.Sample(r, took, 1, longest)), sampled(r, took, 1, longest))
			}
		}
	}
}

// P8.1, P8.3: many samples in a row, by the definition.
func TestSampleRow(t *testing.T) {
	for seed := range 40 {
		roll := dice(uint64(seed))
		r := api.Rtt{}
		if seed%4 == 3 {
			r = api.Rtt{Has: true, Srtt: roll(last), Var: roll(last), Rto: roll(last), Shift: roll(17)}
		}
		for range 300 {
			took := roll(1 << (1 + roll(40)))
			least := 1 + roll(longest>>roll(40))
			most := least + roll(longest-least+1)
			got := of(rtt.Sample(r, took, least, most))
			expect(t, "Sample", got, sampled(r, took, least, most))
			expectBetween(t, r, took, got.r.Srtt)
			r = got.r
		}
	}
}

// P8.2: Double increments Shift up to 16 and changes nothing else.
func TestDouble(t *testing.T) {
	for _, r := range valid() {
		for shift := range 17 {
			r.Shift = shift
			want := r
			want.Shift = []int{1, 2, 3, 4, 5, 6, 7, 8, 9, 10, 11, 12, 13, 14, 15, 16, 16}[shift]
			expect(t, "Double", of(rtt.Double(r)), want)
		}
	}
	r := api.Rtt{}
	for range 40 {
		r, _ = rtt.Double(r)
	}
	expect(t, "Double after 40 of them", of(rtt.Double(r)), api.Rtt{Shift: 16})
}

// P8.2: Wait for each Shift, with and without Has, where most decides and where it does not.
func TestWait(t *testing.T) {
	known := api.Rtt{Has: true, Srtt: 80000, Var: 40000, Rto: 240000}
	for _, c := range []struct{ shift, first, later int }{
		{0, 1000000, 240000}, {1, 2000000, 480000}, {2, 4000000, 960000}, {3, 8000000, 1920000}, {4, 16000000, 3840000},
		{5, 32000000, 7680000}, {6, 64000000, 15360000}, {7, 128000000, 30720000}, {8, 256000000, 61440000},
		{9, 512000000, 122880000}, {10, 1024000000, 245760000}, {11, 2048000000, 491520000}, {12, 4096000000, 983040000},
		{13, 8192000000, 1966080000}, {14, 16384000000, 3932160000}, {15, 32768000000, 7864320000}, {16, 65536000000, 15728640000},
	} {
		known.Shift = c.shift
		expectWait(t, api.Rtt{Shift: c.shift}, c.first)
		expectWait(t, api.Rtt{Rto: 240000, Shift: c.shift}, c.first) // Rto counts only with Has
		expectWait(t, api.Rtt{Rto: last, Shift: c.shift}, c.first)
		expectWait(t, known, c.later)
	}
}

// expectWait checks that the time to wait is n where most is at least that, and most where it is less.
func expectWait(t *testing.T, r api.Rtt, n int) {
	t.Helper()
	for _, most := range []int{1, 1000, 239999, 240000, 240001, 999999, 1000000, 1000001, n - 1, n, n + 1, 2*n - 1, 2 * n, longest - 1, longest} {
		if got := rtt.Wait(r, most); got != min(n, most) {
			t.Errorf("%+v: a Wait of %d instead of %d, or %d", r, got, n, most)
		}
	}
}

// P8.2: Wait with an Rto as small and as great as it may be.
func TestWaitEdges(t *testing.T) {
	for shift := range 17 {
		for _, most := range []int{1, 2, 1000000, longest - 1, longest} {
			if n := rtt.Wait(api.Rtt{Has: true, Shift: shift}, most); n != 0 {
				t.Errorf("an Rto of 0 and a Shift of %d: %d", shift, n)
			}
			for _, rto := range []int{longest, longest + 1, 1 << 46, 1 << 47, 1 << 48, 1<<48 + 1, 3 << 46, last - 1, last} {
				if n := rtt.Wait(api.Rtt{Has: true, Rto: rto, Shift: shift}, most); n != most {
					t.Errorf("an Rto of %d and a Shift of %d: %d instead of %d", rto, shift, n, most)
				}
			}
		}
	}
	if n := rtt.Wait(api.Rtt{Has: true, Rto: 1 << 24, Shift: 16}, longest); n != longest {
		t.Errorf("exactly 2^40: %d", n)
	}
	if n := rtt.Wait(api.Rtt{Has: true, Rto: 1<<24 - 1, Shift: 16}, longest); n != longest-65536 {
		t.Errorf("just below 2^40: %d", n)
	}
}

// P8.2: Wait is 0 for a most that is not in the range 1 to 2^40.
func TestWaitMost(t *testing.T) {
	for _, most := range []int{math.MinInt, -last, -longest, -1000, -1, 0, longest + 1, 2 * longest, last, api.Range, math.MaxInt} {
		for _, r := range valid() {
			if n := rtt.Wait(r, most); n != 0 {
				t.Errorf("%+v and a most of %d: %d", r, most, n)
			}
		}
		for _, r := range invalid() {
			if n := rtt.Wait(r, most); n != 0 {
				t.Errorf("%+v and a most of %d: %d", r, most, n)
			}
		}
	}
}

// P8.2: Wait of valid estimates of all kinds, by the definition.
func TestWaitExact(t *testing.T) {
	for _, r := range valid() {
		for shift := range 17 {
			r.Shift = shift
			for _, most := range []int{1, 999, 1000000, 5000000, 1 << 30, longest - 1, longest} {
				if n := rtt.Wait(r, most); n != waited(r, most) {
					t.Errorf("%+v and a most of %d: %d instead of %d", r, most, n, waited(r, most))
				}
			}
		}
	}
}

// expectBetween checks that Srtt after a sample lies between the one before it and the sample.
func expectBetween(t *testing.T, before api.Rtt, took, srtt int) {
	t.Helper()
	if srtt < min(before.Srtt, took) || srtt > max(before.Srtt, took) {
		t.Errorf("an Srtt of %d between %d and %d", srtt, before.Srtt, took)
	}
}

// P8.3: Srtt lies between its previous value and the sample.
func TestSrttBetween(t *testing.T) {
	for _, r := range valid() {
		for _, took := range samples() {
			x, e := rtt.Sample(r, took, 1, longest)
			if e != api.OK {
				t.Errorf("%+v after %d: %d", r, took, e)
			}
			expectBetween(t, r, took, x.Srtt)
		}
	}
}

// P8.3: Wait never exceeds most, and Double never decreases it.
func TestWaitBounded(t *testing.T) {
	for _, r := range valid() {
		for _, most := range []int{1, 2, 1000, 240000, 999999, 1000000, 1 << 35, longest - 1, longest} {
			r.Shift = 0
			for range 20 {
				n := rtt.Wait(r, most)
				d, e := rtt.Double(r)
				if n > most || e != api.OK || rtt.Wait(d, most) < n {
					t.Errorf("%+v waits %d, after Double %d, of at most %d", r, n, rtt.Wait(d, most), most)
				}
				r = d
			}
		}
	}
}
