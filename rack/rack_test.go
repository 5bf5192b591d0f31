package rack_test

import (
	"math"
	"slices"
	"testing"

	"fourinhand/api"
	"fourinhand/rack"
	"fourinhand/sent"
)

const (
	last     = 1 << 60 // the greatest At and Took of a state, and the greatest Seq, Dsn, At, Total and Last of a part
	furthest = 1 << 61 // the greatest End and Far
	longest  = 1 << 40 // the greatest least, srtt and slack
)

// part returns a part that was sent once.
func part(seq, length, at int) api.Sent {
	return api.Sent{Seq: seq, Len: length, Dsn: 5000 + seq%1000, At: at, Tries: 1, Total: 300, Last: 60}
}

// again returns x as it is when it was sent twice.
func again(x api.Sent) api.Sent {
	x.Tries = 2
	return x
}

// came returns x as it is when it is told to have come.
func came(x api.Sent) api.Sent {
	x.Came, x.Lost = true, false
	return x
}

// lost returns x as it is when it is taken for lost.
func lost(x api.Sent) api.Sent {
	x.Came, x.Lost = false, true
	return x
}

// tens returns a part of 10 bytes for each of these times, the first one from 100 on.
func tens(at ...int) []api.Sent {
	var l []api.Sent
	for i, n := range at {
		l = append(l, part(100+10*i, 10, n))
	}
	return l
}

// many returns n parts of 10 bytes from 100 on, sent at 0, 1, 2 and so on.
func many(n int) []api.Sent {
	var at []int
	for i := range n {
		at = append(at, i)
	}
	return tens(at...)
}

// with returns l with x in the place i.
func with(l []api.Sent, i int, x api.Sent) []api.Sent {
	l = slices.Clone(l)
	l[i] = x
	return l
}

// without returns l after the parts in these places became Lost.
func without(l []api.Sent, places ...int) []api.Sent {
	l = slices.Clone(l)
	for _, i := range places {
		l[i].Lost = true
	}
	return l
}

// ordinary returns a state in which all fields that may be told apart differ.
func ordinary() api.Rack {
	return api.Rack{At: 500, End: 240, Took: 80, Far: 260, Mixed: true, Quarters: 3}
}

// validStates returns valid states, and one each with the smallest and the greatest value of each field.
func validStates() map[string]api.Rack {
	change := func(f func(k *api.Rack)) api.Rack {
		k := ordinary()
		f(&k)
		return k
	}
	return map[string]api.Rack{
		"ordinary":         ordinary(),
		"the zero value":   {},
		"an At of 0":       change(func(k *api.Rack) { k.At = 0 }),
		"an At of 2^60":    change(func(k *api.Rack) { k.At = last }),
		"an End of 0":      change(func(k *api.Rack) { k.End = 0 }),
		"an End of 2^61":   change(func(k *api.Rack) { k.End = furthest }),
		"a Took of 0":      change(func(k *api.Rack) { k.Took = 0 }),
		"a Took of 2^60":   change(func(k *api.Rack) { k.Took = last }),
		"a Far of 0":       change(func(k *api.Rack) { k.Far = 0 }),
		"a Far of 2^61":    change(func(k *api.Rack) { k.Far = furthest }),
		"not Mixed":        change(func(k *api.Rack) { k.Mixed = false }),
		"Quarters of 0":    change(func(k *api.Rack) { k.Quarters = 0 }),
		"Quarters of 19":   change(func(k *api.Rack) { k.Quarters = 19 }),
		"Quarters of 20":   change(func(k *api.Rack) { k.Quarters = 20 }),
		"all the greatest": {At: last, End: furthest, Took: last, Far: furthest, Mixed: true, Quarters: 20},
	}
}

// invalidStates returns states that are not valid because of one field, and why they are that.
func invalidStates() map[string]api.Rack {
	change := func(f func(k *api.Rack)) api.Rack {
		k := ordinary()
		f(&k)
		return k
	}
	return map[string]api.Rack{
		"an At of -1":           change(func(k *api.Rack) { k.At = -1 }),
		"an At of 2^60 + 1":     change(func(k *api.Rack) { k.At = last + 1 }),
		"the least At":          change(func(k *api.Rack) { k.At = math.MinInt }),
		"the greatest At":       change(func(k *api.Rack) { k.At = math.MaxInt }),
		"an End of -1":          change(func(k *api.Rack) { k.End = -1 }),
		"an End of 2^61 + 1":    change(func(k *api.Rack) { k.End = furthest + 1 }),
		"the least End":         change(func(k *api.Rack) { k.End = math.MinInt }),
		"the greatest End":      change(func(k *api.Rack) { k.End = math.MaxInt }),
		"a Took of -1":          change(func(k *api.Rack) { k.Took = -1 }),
		"a Took of 2^60 + 1":    change(func(k *api.Rack) { k.Took = last + 1 }),
		"the least Took":        change(func(k *api.Rack) { k.Took = math.MinInt }),
		"the greatest Took":     change(func(k *api.Rack) { k.Took = math.MaxInt }),
		"a Far of -1":           change(func(k *api.Rack) { k.Far = -1 }),
		"a Far of 2^61 + 1":     change(func(k *api.Rack) { k.Far = furthest + 1 }),
		"the least Far":         change(func(k *api.Rack) { k.Far = math.MinInt }),
		"the greatest Far":      change(func(k *api.Rack) { k.Far = math.MaxInt }),
		"Quarters of -1":        change(func(k *api.Rack) { k.Quarters = -1 }),
		"Quarters of 21":        change(func(k *api.Rack) { k.Quarters = 21 }),
		"the least Quarters":    change(func(k *api.Rack) { k.Quarters = math.MinInt }),
		"the greatest Quarters": change(func(k *api.Rack) { k.Quarters = math.MaxInt }),
		"an At only":            {At: -1},
		"Quarters only":         {Quarters: 21},
	}
}

// validParts returns valid parts, and one each with the smallest and the greatest value of each field.
func validParts() map[string]api.Sent {
	change := func(f func(x *api.Sent)) api.Sent {
		x := part(20, 10, 70)
		f(&x)
		return x
	}
	return map[string]api.Sent{
		"ordinary":         part(20, 10, 70),
		"a Seq of 0":       change(func(x *api.Sent) { x.Seq = 0 }),
		"a Seq of 2^60":    change(func(x *api.Sent) { x.Seq = last }),
		"a Dsn of 0":       change(func(x *api.Sent) { x.Dsn = 0 }),
		"a Dsn of 2^60":    change(func(x *api.Sent) { x.Dsn = last }),
		"an At of 0":       change(func(x *api.Sent) { x.At = 0 }),
		"an At of 2^60":    change(func(x *api.Sent) { x.At = last }),
		"a Total of 2^60":  change(func(x *api.Sent) { x.Total = last }),
		"a Last of 2^60":   change(func(x *api.Sent) { x.Last = last }),
		"a Len of 1":       change(func(x *api.Sent) { x.Len = 1 }),
		"a Len of 1460":    change(func(x *api.Sent) { x.Len = 1460 }),
		"Tries of 2":       change(func(x *api.Sent) { x.Tries = 2 }),
		"Tries of 1000":    change(func(x *api.Sent) { x.Tries = 1000 }),
		"Came":             change(func(x *api.Sent) { x.Came = true }),
		"Lost":             change(func(x *api.Sent) { x.Lost = true }),
		"all the smallest": {Len: 1, Tries: 1},
		"all the greatest": {Seq: last, Len: 1460, Dsn: last, At: last, Tries: 1000, Total: last, Last: last},
	}
}

// invalidParts returns parts from 20 on that are not valid because of one field, and why they are that.
func invalidParts() map[string]api.Sent {
	change := func(f func(x *api.Sent)) api.Sent {
		x := part(20, 10, 70)
		f(&x)
		return x
	}
	return map[string]api.Sent{
		"a Seq of -1":         change(func(x *api.Sent) { x.Seq = -1 }),
		"a Seq of 2^60 + 1":   change(func(x *api.Sent) { x.Seq = last + 1 }),
		"the greatest Seq":    change(func(x *api.Sent) { x.Seq = math.MaxInt }),
		"a Dsn of -1":         change(func(x *api.Sent) { x.Dsn = -1 }),
		"a Dsn of 2^60 + 1":   change(func(x *api.Sent) { x.Dsn = last + 1 }),
		"an At of -1":         change(func(x *api.Sent) { x.At = -1 }),
		"an At of 2^60 + 1":   change(func(x *api.Sent) { x.At = last + 1 }),
		"the least At":        change(func(x *api.Sent) { x.At = math.MinInt }),
		"the greatest At":     change(func(x *api.Sent) { x.At = math.MaxInt }),
		"a Total of -1":       change(func(x *api.Sent) { x.Total = -1 }),
		"a Total of 2^60 + 1": change(func(x *api.Sent) { x.Total = last + 1 }),
		"a Last of -1":        change(func(x *api.Sent) { x.Last = -1 }),
		"a Last of 2^60 + 1":  change(func(x *api.Sent) { x.Last = last + 1 }),
		"a Len of 0":          change(func(x *api.Sent) { x.Len = 0 }),
		"a Len of -1":         change(func(x *api.Sent) { x.Len = -1 }),
		"a Len of 1461":       change(func(x *api.Sent) { x.Len = 1461 }),
		"the greatest Len":    change(func(x *api.Sent) { x.Len = math.MaxInt }),
		"Tries of 0":          change(func(x *api.Sent) { x.Tries = 0 }),
		"Tries of -1":         change(func(x *api.Sent) { x.Tries = -1 }),
		"Tries of 1001":       change(func(x *api.Sent) { x.Tries = 1001 }),
		"Came and Lost":       change(func(x *api.Sent) { x.Came, x.Lost = true, true }),
		"the zero value":      {},
	}
}

// invalidLists returns lists that are not valid, and why they are that.
func invalidLists() map[string][]api.Sent {
	l := tens(0, 10, 20, 30)
	lists := map[string][]api.Sent{
		"501 parts":       many(501),
		"1000 parts":      many(1000),
		"a gap of one":    {l[0], l[1], part(121, 10, 20)},
		"an overlap":      {l[0], l[1], part(119, 10, 20)},
		"a part is gone":  {l[0], l[1], l[3]},
		"twice the same":  {l[0], l[0]},
		"parts that fall": {l[1], l[0]},
		"a gap behind parts that are not considered": {came(l[0]), lost(l[1]), came(l[3])},
	}
	for i, place := range []string{"first", "second", "third", "last"} {
		for why, x := range invalidParts() {
			if x.Seq == 20 { // what is wrong is not its Seq
				x.Seq = 100 + 10*i
			}
			lists[why+", "+place] = with(l, i, x)
		}
	}
	return lists
}

// isValid reports whether the document calls k valid.
func isValid(k api.Rack) bool {
	for _, n := range []int{k.At, k.Took} {
		if n < 0 || n > last {
			return false
		}
	}
	for _, n := range []int{k.End, k.Far} {
		if n < 0 || n > furthest {
			return false
		}
	}
	return k.Quarters >= 0 && k.Quarters <= 20
}

// arrived returns what the document says Came is of arguments that it accepts.
func arrived(k api.Rack, x api.Sent, now, least int) api.Rack {
	end := x.Seq + x.Len
	if end < k.Far && x.Tries == 1 {
		k.Mixed = true
	}
	if end > k.Far {
		k.Far = end
	}
	if x.Tries > 1 && now-x.At < least {
		return k
	}
	if k.At < x.At || k.At == x.At && k.End < end {
		k.At, k.End, k.Took = x.At, end, now-x.At
	}
	return k
}

// detected returns what the document says Lost is of arguments that it accepts.
func detected(k api.Rack, l []api.Sent, now, slack int) ([]api.Sent, int, int) {
	var after []api.Sent
	var deadlines []int
	n := 0
	for _, x := range l {
		earlier := x.At < k.At || x.At == k.At && x.Seq+x.Len < k.End
		deadline := x.At + k.Took + slack
		if earlier && !x.Came && !x.Lost && deadline <= now {
			x.Lost = true
			n++
		} else if earlier && !x.Came && !x.Lost {
			deadlines = append(deadlines, deadline)
		}
		after = append(after, x)
	}
	if len(deadlines) == 0 {
		return after, n, 0
	}
	return after, n, slices.Min(deadlines)
}

// dice returns a function that returns numbers from 0 on below n, which depend on the seed only.
func dice(seed int) func(n int) int {
	state := uint64(seed)*2862933555777941757 + 3037000493
	return func(n int) int {
		state = state*6364136223846793005 + 1442695040888963407
		return int(state>>3) % n
	}
}

// short returns l, or what it begins with, to be told of.
func short(l []api.Sent) []api.Sent { return l[:min(len(l), 6)] }

// expectCame checks the results of a Came that succeeds.
func expectCame(t *testing.T, why string, k api.Rack, x api.Sent, now, least int, want api.Rack) {
	t.Helper()
	if got, e := rack.Came(k, x, now, least); e != api.OK || got != want || !rack.May(got) {
		t.Errorf("%s: %v came at %d, least %d, of %v: %v %d instead of %v", why, x, now, least, k, got, e, want)
	}
}

// expectCameError checks that Came returns ErrArg and nothing else.
func expectCameError(t *testing.T, why string, k api.Rack, x api.Sent, now, least int) {
	t.Helper()
	if got, e := rack.Came(k, x, now, least); e != api.ErrArg || got != (api.Rack{}) {
		t.Errorf("%s: %v came at %d, least %d, of %v: %v %d instead of ErrArg", why, x, now, least, k, got, e)
	}
}

// expectSlack checks the result of Slack.
func expectSlack(t *testing.T, why string, k api.Rack, least, srtt, want int) {
	t.Helper()
	if n := rack.Slack(k, least, srtt); n != want {
		t.Errorf("%s: the slack of %v with least %d and srtt %d is %d instead of %d", why, k, least, srtt, n, want)
	}
}

// expectLost checks the results of a Lost that succeeds, with the parts in these places becoming Lost.
func expectLost(t *testing.T, why string, k api.Rack, l []api.Sent, now, slack, next int, places ...int) {
	t.Helper()
	got, n, soon, e := rack.Lost(k, l, now, slack)
	want := without(l, places...)
	if e != api.OK || n != len(places) || soon != next || !slices.Equal(got, want) || !sent.May(got) {
		t.Errorf("%s: of %v at %d, slack %d, by %v:\n%v %d %d %d instead of\n%v %d %d", why, short(l), now, slack, k, short(got), n, soon, e, short(want), len(places), next)
	}
}

// expectLostError checks that Lost returns ErrArg and nothing else.
func expectLostError(t *testing.T, why string, k api.Rack, l []api.Sent, now, slack int) {
	t.Helper()
	if got, n, next, e := rack.Lost(k, l, now, slack); e != api.ErrArg || len(got) > 0 || n != 0 || next != 0 {
		t.Errorf("%s: of %v at %d, slack %d, by %v: %v %d %d %d instead of ErrArg", why, short(l), now, slack, k, short(got), n, next, e)
	}
}

// P13.1, P13.2, P13.3: states with the smallest and the greatest value of each field are accepted everywhere.
func TestValidStates(t *testing.T) {
	x := part(200, 10, 400)
	l := tens(300, 400, 500)
	for why, k := range validStates() {
		if !isValid(k) || !rack.May(k) {
			t.Errorf("%s: not valid", why)
		}
		expectCame(t, why, k, x, 450, 0, arrived(k, x, 450, 0))
		want := k
		want.Quarters = min(k.Quarters+1, 20)
		if got, e := rack.Twice(k); e != api.OK || got != want {
			t.Errorf("%s: twice: %v %d", why, got, e)
		}
		slack := 0
		if k.Mixed {
			slack = (k.Quarters + 1) * 25
		}
		expectSlack(t, why, k, 100, 10000, slack)
		after, n, next := detected(k, l, 450, 30)
		if got, m, soon, e := rack.Lost(k, l, 450, 30); e != api.OK || !slices.Equal(got, after) || m != n || soon != next {
			t.Errorf("%s: lost: %v %d %d %d", why, got, m, soon, e)
		}
	}
}

// P13.1, P13.2, P13.3: states that are not valid are accepted nowhere.
func TestInvalidStates(t *testing.T) {
	for why, k := range invalidStates() {
		if isValid(k) || rack.May(k) {
			t.Errorf("%s: valid", why)
		}
		expectCameError(t, why, k, part(200, 10, 400), 450, 0)
		expectCameError(t, why, k, again(part(200, 10, 400)), 450, 1000)
		if got, e := rack.Twice(k); e != api.ErrArg || got != (api.Rack{}) {
			t.Errorf("%s: twice: %v %d", why, got, e)
		}
		k.Mixed = true
		expectSlack(t, why, k, 100, 10000, 0)
		expectLostError(t, why, k, tens(300, 400, 500), 450, 30)
		expectLostError(t, why, k, nil, 450, 30)
	}
}

// P13.1: numbers at the edges in each two of the fields, by the definition.
func TestStateEdges(t *testing.T) {
	edges := []int{math.MinInt, -1, 0, 1, 19, 20, 21, 22, last - 1, last, last + 1, furthest - 1, furthest, furthest + 1, math.MaxInt}
	fields := []func(k *api.Rack) *int{
		func(k *api.Rack) *int { return &k.At }, func(k *api.Rack) *int { return &k.End }, func(k *api.Rack) *int { return &k.Took },
		func(k *api.Rack) *int { return &k.Far }, func(k *api.Rack) *int { return &k.Quarters },
	}
	for _, f := range fields {
		for _, g := range fields {
			for _, n := range edges {
				for _, m := range edges {
					for _, mixed := range []bool{false, true} {
						k := ordinary()
						k.Mixed = mixed
						*f(&k) = n
						*g(&k) = m
						if rack.May(k) != isValid(k) {
							t.Errorf("%v: May is %t", k, !isValid(k))
						}
					}
				}
			}
		}
	}
}

// P13.1: the first part of all, and all fields that stay.
func TestCame(t *testing.T) {
	expectCame(t, "the first part", api.Rack{}, part(0, 10, 10), 100, 0, api.Rack{At: 10, End: 10, Took: 90, Far: 10})
	expectCame(t, "the first part, at 0", api.Rack{}, part(0, 1, 0), 0, 0, api.Rack{At: 0, End: 1, Took: 0, Far: 1})
	expectCame(t, "the next part", api.Rack{At: 10, End: 10, Took: 90, Far: 10}, part(10, 20, 15), 110, 0, api.Rack{At: 15, End: 30, Took: 95, Far: 30})
	k := api.Rack{At: 10, End: 10, Took: 90, Far: 10, Mixed: true, Quarters: 7}
	expectCame(t, "Mixed and Quarters stay", k, part(10, 20, 15), 110, 0, api.Rack{At: 15, End: 30, Took: 95, Far: 30, Mixed: true, Quarters: 7})
	expectCame(t, "all stays", ordinary(), part(250, 10, 499), 600, 0, ordinary())
	for why, x := range validParts() {
		for _, k := range validStates() {
			for _, now := range []int{x.At, min(x.At+1, last), min(x.At+1000, last), last} {
				for _, least := range []int{0, 1, 1000, 1001, longest} {
					expectCame(t, why, k, x, now, least, arrived(k, x, now, least))
				}
			}
		}
	}
}

// P13.1: parts that are not valid.
func TestCamePartErrors(t *testing.T) {
	for why, x := range invalidParts() {
		if sent.May([]api.Sent{x}) {
			t.Errorf("%s: valid", why)
		}
		for _, k := range []api.Rack{{}, ordinary()} {
			for _, now := range []int{-1, 0, 70, 100, last, last + 1, math.MaxInt} {
				expectCameError(t, why, k, x, now, 0)
				expectCameError(t, why, k, x, now, longest)
			}
		}
	}
}

// P13.1: now is in the range from the At of the part to 2^60.
func TestCameNow(t *testing.T) {
	x := part(200, 10, 600)
	want := api.Rack{At: 600, End: 210, Far: 260, Mixed: true, Quarters: 3}
	for _, now := range []int{600, 601, 1000, last - 1, last} {
		want.Took = now - 600
		expectCame(t, "in range", ordinary(), x, now, 0, want)
		expectCame(t, "in range, again", ordinary(), again(x), now, 0, want)
	}
	for _, now := range []int{math.MinInt, -1, 0, 500, 599, last + 1, last + 2, math.MaxInt} {
		expectCameError(t, "not in range", ordinary(), x, now, 0)
		expectCameError(t, "not in range, again", ordinary(), again(x), now, longest)
		expectCameError(t, "not in range, nothing came yet", api.Rack{}, x, now, 0)
	}
	expectCame(t, "an At of 0", api.Rack{}, part(0, 1, 0), 0, 0, api.Rack{End: 1, Far: 1})
	expectCameError(t, "an At of 0", api.Rack{}, part(0, 1, 0), -1, 0)
	expectCame(t, "an At of 2^60", api.Rack{}, part(0, 1, last), last, 0, api.Rack{At: last, End: 1, Far: 1})
	expectCameError(t, "an At of 2^60", api.Rack{}, part(0, 1, last), last-1, 0)
	expectCame(t, "the greatest Took", api.Rack{}, part(last, 1460, 0), last, 0, api.Rack{End: last + 1460, Took: last, Far: last + 1460})
	expectCameError(t, "before the part, but behind what came", api.Rack{At: 3}, part(0, 1, 9), 8, 0)
}

// P13.1: least is in the range 0 to 2^40, also where it does not count.
func TestCameLeast(t *testing.T) {
	x := part(200, 10, 600)
	want := api.Rack{At: 600, End: 210, Took: 100, Far: 260, Mixed: true, Quarters: 3}
	for _, least := range []int{0, 1, 100, 101, longest - 1, longest} {
		expectCame(t, "in range", ordinary(), x, 700, least, want)
	}
	for _, least := range []int{math.MinInt, -2, -1, longest + 1, longest + 2, math.MaxInt} {
		expectCameError(t, "not in range", ordinary(), x, 700, least)
		expectCameError(t, "not in range, again", ordinary(), again(x), 700, least)
		expectCameError(t, "not in range, it was sent earlier", ordinary(), part(200, 10, 400), 700, least)
	}
	k := ordinary()
	expectCame(t, "again, a least of 2^40, too early", k, again(part(300, 10, 600)), 600+longest-1, longest, api.Rack{At: 500, End: 240, Took: 80, Far: 310, Mixed: true, Quarters: 3})
	expectCame(t, "again, a least of 2^40", k, again(part(300, 10, 600)), 600+longest, longest, api.Rack{At: 600, End: 310, Took: longest, Far: 310, Mixed: true, Quarters: 3})
	expectCame(t, "again, a least of 0", k, again(part(300, 10, 600)), 600, 0, api.Rack{At: 600, End: 310, Took: 0, Far: 310, Mixed: true, Quarters: 3})
}

// P13.1: Mixed is set by a part that was sent once and ends before Far, and Far grows with every part that ends behind it.
func TestCameFar(t *testing.T) {
	for _, c := range []struct {
		why        string
		end, tries int
		mixed      bool
		far        int
	}{
		{"one less", 259, 1, true, 260},
		{"one less, twice", 259, 2, false, 260},
		{"one less, often", 259, 1000, false, 260},
		{"far less", 11, 1, true, 260},
		{"far less, twice", 11, 2, false, 260},
		{"exactly", 260, 1, false, 260},
		{"exactly, twice", 260, 2, false, 260},
		{"one more", 261, 1, false, 261},
		{"one more, twice", 261, 2, false, 261},
		{"far more", 5000, 1, false, 5000},
		{"far more, often", 5000, 1000, false, 5000},
	} {
		x := part(c.end-10, 10, 400) // it was sent before (At, End), so that only these two fields change
		x.Tries = c.tries
		for _, mixed := range []bool{false, true} {
			for _, least := range []int{0, 50, 51, longest} {
				k := ordinary()
				k.Mixed = mixed
				want := k
				want.Far, want.Mixed = c.far, c.mixed || mixed
				expectCame(t, c.why, k, x, 450, least, want)
			}
		}
	}
	expectCame(t, "a Far of 2^61", api.Rack{Far: furthest}, part(last, 1460, 0), 0, 0, api.Rack{End: last + 1460, Far: furthest, Mixed: true})
	expectCame(t, "a Far of 0", api.Rack{}, part(0, 1, 0), 0, 0, api.Rack{End: 1, Far: 1})
}

// P13.1: a part that was sent again and arrives so early does not count, one that was sent once does.
func TestCameEarly(t *testing.T) {
	x := part(230, 20, 600)
	k := ordinary()
	stays := k
	for _, c := range []struct {
		now, least int
		early      bool
	}{
		{649, 50, true}, {650, 50, false}, {651, 50, false}, {600, 1, true}, {600, 0, false}, {601, 1, false}, {699, 100, true}, {700, 100, false},
	} {
		want := k
		want.At, want.End, want.Took = 600, 250, c.now-600
		expectCame(t, "sent once", k, x, c.now, c.least, arrived(k, x, c.now, c.least))
		once, e := rack.Came(k, x, c.now, c.least)
		if e != api.OK || once.At != 600 || once.End != 250 || once.Took != c.now-600 {
			t.Errorf("sent once: at %d, least %d: %v %d", c.now, c.least, once, e)
		}
		if c.early {
			expectCame(t, "sent again, early", k, again(x), c.now, c.least, stays)
		} else {
			expectCame(t, "sent again", k, again(x), c.now, c.least, want)
		}
	}
	often := x
	often.Tries = 1000
	expectCame(t, "sent often, early", k, often, 649, 50, stays)
	expectCame(t, "sent often", k, often, 650, 50, api.Rack{At: 600, End: 250, Took: 50, Far: 260, Mixed: true, Quarters: 3})
	expectCame(t, "sent again, early, but further", k, again(part(290, 20, 600)), 649, 50, api.Rack{At: 500, End: 240, Took: 80, Far: 310, Mixed: true, Quarters: 3})
}

// P13.1: (At, End) and Took are of the part that was sent last.
func TestCamePair(t *testing.T) {
	k := ordinary()
	k.Far = 200 // so that Mixed stays as it is
	k.Mixed = false
	for _, c := range []struct {
		why     string
		at, end int
		becomes bool
	}{
		{"sent much earlier", 0, 240, false},
		{"sent earlier", 499, 240, false},
		{"sent earlier, a smaller end", 499, 239, false},
		{"sent earlier, a greater end", 499, 300, false},
		{"at the same time, a smaller end", 500, 239, false},
		{"the same pair", 500, 240, false},
		{"at the same time, a greater end", 500, 241, true},
		{"sent later, a smaller end", 501, 239, true},
		{"sent later, the same end", 501, 240, true},
		{"sent later, a greater end", 501, 241, true},
		{"sent much later", 100000, 240, true},
	} {
		want := k
		want.Far = c.end
		if c.becomes {
			want.At, want.End, want.Took = c.at, c.end, 200000-c.at
		}
		x := part(c.end-10, 10, c.at)
		expectCame(t, c.why, k, x, 200000, 0, want)
		expectCame(t, c.why+", sent again", k, again(x), 200000, 5, want)
	}
}

// P13.1: it makes no difference whether a part is told to have come, or taken for lost, nor what its other fields are.
func TestCameStates(t *testing.T) {
	for _, x := range []api.Sent{part(200, 10, 400), part(200, 10, 600), part(300, 10, 600), part(300, 10, 400), again(part(200, 10, 600))} {
		want := arrived(ordinary(), x, 700, 50)
		expectCame(t, "neither", ordinary(), x, 700, 50, want)
		expectCame(t, "Came", ordinary(), came(x), 700, 50, want)
		expectCame(t, "Lost", ordinary(), lost(x), 700, 50, want)
		x.Dsn, x.Total, x.Last = 0, last, 0
		expectCame(t, "other fields", ordinary(), x, 700, 50, want)
	}
}

// P13.1: all states with small numbers, and all parts with small numbers, by the definition.
func TestCameExhaustive(t *testing.T) {
	for at := range 3 {
		for end := range 5 {
			for far := range 6 {
				for mixed := range 2 {
					k := api.Rack{At: at, End: end, Took: 9, Far: far, Mixed: mixed == 1, Quarters: 5}
					for bits := range 3 * 4 * 2 {
						x := api.Sent{Seq: bits % 4, Len: 1 + bits%2, At: bits / 8, Tries: 1 + bits/4%2}
						for now := x.At; now < 5; now++ {
							for least := range 5 {
								expectCame(t, "small numbers", k, x, now, least, arrived(k, x, now, least))
							}
						}
					}
				}
			}
		}
	}
}

// P13.2: Quarters grow up to 20, and every other field stays.
func TestTwice(t *testing.T) {
	for quarters := range 21 {
		k := ordinary()
		k.Quarters = quarters
		want := k
		want.Quarters = []int{1, 2, 3, 4, 5, 6, 7, 8, 9, 10, 11, 12, 13, 14, 15, 16, 17, 18, 19, 20, 20}[quarters]
		if got, e := rack.Twice(k); e != api.OK || got != want {
			t.Errorf("%v: %v %d", k, got, e)
		}
		k.Mixed, want.Mixed = false, false
		if got, e := rack.Twice(k); e != api.OK || got != want {
			t.Errorf("%v: %v %d", k, got, e)
		}
	}
	if got, e := rack.Twice(api.Rack{}); e != api.OK || got != (api.Rack{Quarters: 1}) {
		t.Errorf("the zero value: %v %d", got, e)
	}
}

// P13.2: quarters of least, rounded down, but at most srtt.
func TestSlack(t *testing.T) {
	for _, c := range []struct {
		why                         string
		quarters, least, srtt, want int
	}{
		{"one quarter", 0, 100, 1000, 25},
		{"two quarters", 1, 100, 1000, 50},
		{"four quarters", 3, 100, 1000, 100},
		{"21 quarters", 20, 100, 1000, 525},
		{"three quarters of one", 2, 1, 1000, 0},
		{"four quarters of one", 3, 1, 1000, 1},
		{"seven quarters of one", 6, 1, 1000, 1},
		{"eight quarters of one", 7, 1, 1000, 2},
		{"a quarter of 3", 0, 3, 1000, 0},
		{"a quarter of 4", 0, 4, 1000, 1},
		{"a quarter of 5", 0, 5, 1000, 1},
		{"a quarter of 7", 0, 7, 1000, 1},
		{"a quarter of 8", 0, 8, 1000, 2},
		{"three quarters of 3", 2, 3, 1000, 2},
		{"three quarters of 5", 2, 5, 1000, 3},
		{"three quarters of 7", 2, 7, 1000, 5},
		{"one below srtt", 3, 99, 100, 99},
		{"exactly srtt", 3, 100, 100, 100},
		{"one above srtt", 3, 101, 100, 100},
		{"above srtt by the remainder only", 0, 403, 100, 100},
		{"far above srtt", 20, 100000, 7, 7},
		{"a least of 0", 20, 0, 1000, 0},
		{"an srtt of 0", 20, 1000, 0, 0},
		{"both 0", 20, 0, 0, 0},
		{"the greatest least", 0, longest, longest, longest / 4},
		{"the greatest least, four quarters", 3, longest, longest, longest},
		{"the greatest of all", 20, longest, longest, longest},
		{"the greatest least beside a small srtt", 20, longest, 5, 5},
		{"the greatest srtt", 20, 1000, longest, 5250},
		{"below the greatest srtt", 3, longest - 1, longest, longest - 1},
	} {
		k := ordinary()
		k.Quarters = c.quarters
		expectSlack(t, c.why, k, c.least, c.srtt, c.want)
		expectSlack(t, c.why, api.Rack{Mixed: true, Quarters: c.quarters}, c.least, c.srtt, c.want)
		k.Mixed = false
		expectSlack(t, c.why+", not Mixed", k, c.least, c.srtt, 0)
	}
}

// P13.2: 0 if an argument is not valid.
func TestSlackArguments(t *testing.T) {
	k := ordinary()
	for _, n := range []int{math.MinInt, -400, -1, longest + 1, longest + 400, last, math.MaxInt} {
		expectSlack(t, "least is not in range", k, n, 1000, 0)
		expectSlack(t, "least is not in range, the greatest srtt", k, n, longest, 0)
		expectSlack(t, "srtt is not in range", k, 1000, n, 0)
		expectSlack(t, "both are not in range", k, n, n, 0)
	}
	for why, k := range invalidStates() {
		for _, mixed := range []bool{false, true} {
			k.Mixed = mixed
			expectSlack(t, why, k, 1000, 1000, 0)
			expectSlack(t, why, k, longest, longest, 0)
		}
	}
}

// P13.2: all quarters and small numbers, by the definition.
func TestSlackExhaustive(t *testing.T) {
	for quarters := range 21 {
		for least := range 30 {
			for srtt := range 40 {
				want := 0 // the greatest number of at most srtt, four of which are not more than the quarters
				for want < srtt && 4*(want+1) <= (quarters+1)*least {
					want++
				}
				expectSlack(t, "small numbers", api.Rack{Mixed: true, Quarters: quarters}, least, srtt, want)
			}
		}
	}
}

// P13.3: lists that are not valid.
func TestLostLists(t *testing.T) {
	k := api.Rack{At: 1000, End: 100000, Took: 5, Far: 100000}
	for why, l := range invalidLists() {
		if sent.May(l) {
			t.Errorf("%s: valid", why)
		}
		for _, now := range []int{-1, 0, 50, last, last + 1} {
			expectLostError(t, why, k, l, now, 0)
			expectLostError(t, why, api.Rack{}, l, now, longest)
		}
	}
	all := make([]int, 500)
	for i := range all {
		all[i] = i
	}
	expectLost(t, "500 parts", k, many(500), 504, 0, 0, all...)
	expectLost(t, "500 parts, none yet", k, many(500), 4, 0, 5)
	expectLost(t, "no part", k, nil, 504, 0, 0)
	expectLost(t, "an empty list", k, []api.Sent{}, 504, 0, 0)
	expectLost(t, "nothing came yet", api.Rack{}, tens(0, 10), 504, 0, 0)
}

// P13.3: now is in the range 0 to 2^60, and slack in the range 0 to 2^40.
func TestLostRanges(t *testing.T) {
	k := api.Rack{At: 50, End: 300, Took: 5, Far: 300}
	l := tens(0, 10, 60)
	for _, n := range []int{math.MinInt, -5, -1, last + 1, last + 2, math.MaxInt} {
		expectLostError(t, "now is not in range", k, l, n, 0)
		expectLostError(t, "now is not in range, the greatest slack", k, l, n, longest)
		expectLostError(t, "now is not in range, no part", k, nil, n, 0)
	}
	for _, n := range []int{math.MinInt, -5, -1, longest + 1, longest + 2, last, math.MaxInt} {
		expectLostError(t, "slack is not in range", k, l, 100, n)
		expectLostError(t, "slack is not in range, no part", k, nil, 100, n)
	}
	expectLost(t, "a now of 0", k, l, 0, 0, 5)
	expectLost(t, "a now of 0, lost at once", api.Rack{At: 1}, l, 0, 0, 0, 0)
	expectLost(t, "a now of 2^60", k, l, last, 0, 0, 0, 1)
	expectLost(t, "a slack of 2^40", k, l, 100, longest, longest+5)
	expectLost(t, "a slack of 2^40, then", k, l, longest+5, longest, longest+15, 0)
	greatest := api.Rack{At: last, End: furthest, Took: last, Far: furthest}
	expectLost(t, "the greatest deadline", greatest, tens(last, last), last, longest, 2*last+longest)
	expectLost(t, "a Took of 2^60", greatest, tens(0, 1), last, 0, last+1, 0)
}

// P13.3: only parts that are neither Came nor Lost, and were sent before (At, End), are considered.
func TestLostConsidered(t *testing.T) {
	k := api.Rack{At: 500, End: 240, Took: 80, Far: 260}
	for _, c := range []struct {
		why        string
		at, end    int
		considered bool
	}{
		{"sent much earlier", 0, 240, true},
		{"sent earlier", 499, 240, true},
		{"sent earlier, a smaller end", 499, 239, true},
		{"sent earlier, a greater end", 499, 400, true},
		{"at the same time, a much smaller end", 500, 11, true},
		{"at the same time, a smaller end", 500, 239, true},
		{"the same pair", 500, 240, false},
		{"at the same time, a greater end", 500, 241, false},
		{"sent later, a smaller end", 501, 100, false},
		{"sent later, the same end", 501, 240, false},
		{"sent later, a greater end", 501, 260, false},
		{"sent much later", 100000, 240, false},
	} {
		x := part(c.end-10, 10, c.at)
		often := x
		often.Tries = 1000
		for _, y := range []api.Sent{x, again(x), often} {
			if c.considered {
				expectLost(t, c.why, k, []api.Sent{y}, 200000, 7, 0, 0)
				expectLost(t, c.why+", at its deadline", k, []api.Sent{y}, c.at+87, 7, 0, 0)
				expectLost(t, c.why+", not yet", k, []api.Sent{y}, c.at+86, 7, c.at+87)
			} else {
				expectLost(t, c.why, k, []api.Sent{y}, 200000, 7, 0)
				expectLost(t, c.why+", not yet", k, []api.Sent{y}, c.at, 7, 0)
			}
			for _, now := range []int{0, c.at + 86, c.at + 87, 200000, last} {
				expectLost(t, c.why+", Came", k, []api.Sent{came(y)}, now, 7, 0)
				expectLost(t, c.why+", Lost", k, []api.Sent{lost(y)}, now, 7, 0)
			}
		}
	}
}

// P13.3: deadlines of exactly now, of one more and of one less.
func TestLostDeadline(t *testing.T) {
	k := api.Rack{At: 500, End: 240, Took: 80, Far: 260, Mixed: true, Quarters: 20}
	x := tens(300)
	for _, slack := range []int{0, 1, 7, 1000} {
		deadline := 380 + slack
		expectLost(t, "one more", k, x, deadline-1, slack, deadline)
		expectLost(t, "exactly", k, x, deadline, slack, 0, 0)
		expectLost(t, "one less", k, x, deadline+1, slack, 0, 0)
	}
	l := tens(299, 300, 301)
	expectLost(t, "one of each", k, l, 387, 7, 388, 0, 1)
	expectLost(t, "all but one exact", k, l, 386, 7, 387, 0)
	expectLost(t, "none", k, l, 385, 7, 386)
	expectLost(t, "all", k, l, 388, 7, 0, 0, 1, 2)
	expectLost(t, "a Took of 0 and no slack", api.Rack{At: 500, End: 240}, l, 300, 0, 301, 0, 1)
}

// P13.3: the smallest deadline of the parts that are considered and not lost, wherever it is.
func TestLostNext(t *testing.T) {
	k := api.Rack{At: 500, End: 240, Took: 80, Far: 260}
	for _, c := range []struct {
		why    string
		l      []api.Sent
		next   int
		places []int
	}{
		{"the first one", tens(310, 340, 330, 320), 397, nil},
		{"the second one", tens(340, 310, 330, 320), 397, nil},
		{"the third one", tens(340, 330, 310, 320), 397, nil},
		{"the last one", tens(340, 330, 320, 310), 397, nil},
		{"two at the same time", tens(340, 310, 310, 320), 397, nil},
		{"the first one is lost", tens(300, 340, 310, 320), 397, []int{0}},
		{"a middle one is lost", tens(340, 300, 330, 310), 397, []int{1}},
		{"the last one is lost", tens(310, 340, 320, 300), 397, []int{3}},
		{"all but one are lost", tens(299, 298, 310, 300), 397, []int{0, 1, 3}},
		{"all are lost", tens(299, 298, 297, 300), 0, []int{0, 1, 2, 3}},
		{"the smallest one came", with(tens(310, 340, 330, 320), 0, came(part(100, 10, 310))), 407, nil},
		{"the smallest one is lost already", with(tens(340, 330, 320, 310), 3, lost(part(130, 10, 310))), 407, nil},
		{"some came", with(with(tens(290, 330, 280, 310), 0, came(part(100, 10, 290))), 3, came(part(130, 10, 310))), 417, []int{2}},
		{"some were sent later", tens(501, 330, 502, 600), 417, nil},
		{"all were sent later", tens(501, 502, 503, 600), 0, nil},
		{"one that is lost, and others that were sent later", tens(501, 290, 503, 600), 0, []int{1}},
		{"one is considered", tens(499, 510, 520, 530), 586, nil},
	} {
		expectLost(t, c.why, k, c.l, 390, 7, c.next, c.places...)
	}
}

// P13.3: all other fields and parts stay.
func TestLostFields(t *testing.T) {
	x := api.Sent{Seq: 100, Len: 3, Dsn: 11, At: 13, Tries: 17, Total: 19, Last: 23}
	y := api.Sent{Seq: 103, Len: 1460, Dsn: last, At: 14, Tries: 1000, Came: true, Total: last, Last: last}
	z := api.Sent{Seq: 1563, Len: 1, Dsn: 5, At: 900, Tries: 1, Total: 7}
	l := []api.Sent{x, y, z}
	gone := x
	gone.Lost = true
	got, n, next, e := rack.Lost(api.Rack{At: 50, End: 60, Took: 7, Far: 9, Mixed: true, Quarters: 4}, l, 20, 0)
	if e != api.OK || n != 1 || next != 0 || !slices.Equal(got, []api.Sent{gone, y, z}) {
		t.Errorf("%v %d %d %d", got, n, next, e)
	}
	// Far, Mixed and Quarters do not count.
	for _, k := range []api.Rack{{At: 50, End: 60, Took: 7}, {At: 50, End: 60, Took: 7, Far: furthest, Quarters: 20}, {At: 50, End: 60, Took: 7, Mixed: true}} {
		expectLost(t, "other fields of the state", k, l, 20, 0, 0, 0)
		expectLost(t, "other fields of the state", k, l, 19, 0, 20)
	}
}

// P13.3: three short parts in all states, sent in any order, by the definition.
func TestLostExhaustive(t *testing.T) {
	for bits := range 9 * 9 * 9 {
		l := []api.Sent{{Seq: 1, Len: 1, Tries: 1}, {Seq: 2, Len: 2, Tries: 2}, {Seq: 4, Len: 1, Tries: 1}}
		for i, b := 0, bits; i < 3; i, b = i+1, b/9 {
			l[i].At, l[i].Came, l[i].Lost = b%3, b/3%3 == 1, b/3%3 == 2
		}
		for at := range 4 {
			for end := range 6 {
				for took := range 3 {
					k := api.Rack{At: at, End: end, Took: took}
					for now := range 6 {
						after, n, next := detected(k, l, now, now%2)
						got, m, soon, e := rack.Lost(k, l, now, now%2)
						if e != api.OK || m != n || soon != next || !slices.Equal(got, after) {
							t.Fatalf("%v at %d, slack %d, by %v: %v %d %d %d", l, now, now%2, k, got, m, soon, e)
						}
					}
				}
			}
		}
	}
}

// P13.1, P13.3: the document's example.
func TestExample(t *testing.T) {
	l := []api.Sent{part(0, 5, 0), part(5, 5, 10)}
	k, e := rack.Came(api.Rack{}, l[1], 100, 0)
	if want := (api.Rack{At: 10, End: 10, Took: 90, Far: 10}); e != api.OK || k != want {
		t.Fatalf("%v %d instead of %v", k, e, want)
	}
	l[1] = came(l[1])
	for now := range 200 {
		if now < 90 {
			expectLost(t, "the example", k, l, now, 0, 90)
		} else {
			expectLost(t, "the example", k, l, now, 0, 0, 0)
		}
	}
}

// shuffled returns n parts that were sent in any order and are in any state, and a state and a time for them.
func shuffled(roll func(n int) int, n int) (api.Rack, []api.Sent, int) {
	var l []api.Sent
	seq := roll(100)
	for range n {
		x := part(seq, 1+roll(20), roll(60))
		x.Tries = 1 + roll(3)
		state := roll(6)
		x.Came, x.Lost = state == 0, state == 1
		l = append(l, x)
		seq += x.Len
	}
	k := api.Rack{At: roll(60), End: roll(seq + 10), Took: roll(80), Far: roll(seq + 10), Mixed: roll(2) == 0, Quarters: roll(21)}
	return k, l, 60 + roll(60)
}

// P13.1, P13.3: longer lists, by the definition.
func TestLostLong(t *testing.T) {
	for seed := range 3000 {
		roll := dice(seed)
		k, l, now := shuffled(roll, 1+roll(40))
		slack := roll(30)
		after, n, next := detected(k, l, now, slack)
		got, m, soon, e := rack.Lost(k, l, now, slack)
		if e != api.OK || m != n || soon != next || !slices.Equal(got, after) {
			t.Fatalf("seed %d: %v %d %d %d instead of %v %d %d", seed, got, m, soon, e, after, n, next)
		}
		x := l[roll(len(l))]
		expectCame(t, "longer lists", k, x, now, slack, arrived(k, x, now, slack))
	}
}

// P13.4: an arrival makes no part lost that was sent after the part that arrived, and not that part itself.
func TestLaterPartsStay(t *testing.T) {
	for seed := range 3000 {
		roll := dice(seed)
		k, l, now := shuffled(roll, 2+roll(20))
		least, slack := roll(40), roll(30)
		i := roll(len(l))
		x := l[i]
		after, e := rack.Came(k, x, now, least)
		if e != api.OK {
			t.Fatalf("seed %d: Came: %d", seed, e)
		}
		l[i] = came(x)
		was, _, _, e1 := rack.Lost(k, l, now, slack)
		is, _, _, e2 := rack.Lost(after, l, now, slack)
		if e1 != api.OK || e2 != api.OK {
			t.Fatalf("seed %d: Lost: %d %d", seed, e1, e2)
		}
		for j, y := range l {
			end := y.Seq + y.Len
			later := y.At > x.At || y.At == x.At && end > x.Seq+x.Len
			if later && is[j].Lost && !was[j].Lost {
				t.Fatalf("seed %d: %v is lost because of %v", seed, y, x)
			}
			if !y.Came && !y.Lost && is[j].Lost && (y.At > after.At || y.At == after.At && end >= after.End) {
				t.Fatalf("seed %d: %v is lost by %v", seed, y, after)
			}
		}
	}
}

// P13.4: a part that becomes Lost was sent at least Took and slack ago, which is longer ago than Took where there is slack.
func TestLostAge(t *testing.T) {
	some := 0
	for seed := range 3000 {
		roll := dice(seed)
		k, l, now := shuffled(roll, 1+roll(40))
		slack := roll(4) // 0 is one of these
		got, n, next, e := rack.Lost(k, l, now, slack)
		if e != api.OK || next != 0 && next <= now {
			t.Fatalf("seed %d: %d %d", seed, next, e)
		}
		for i, x := range got {
			if l[i].Came || l[i].Lost || !x.Lost {
				continue
			}
			some++
			n--
			if age := now - x.At; age < k.Took || slack > 0 && age <= k.Took || age < k.Took+slack {
				t.Fatalf("seed %d: %v is lost at %d, slack %d, by %v", seed, x, now, slack, k)
			}
		}
		if n != 0 {
			t.Fatalf("seed %d: %d parts too many", seed, n)
		}
	}
	if some < 1000 {
		t.Errorf("only %d parts became Lost", some)
	}
	k := api.Rack{At: 500, End: 240, Took: 80}
	expectLost(t, "exactly Took ago, no slack", k, tens(300), 380, 0, 0, 0)
	expectLost(t, "exactly Took ago, with slack", k, tens(300), 380, 1, 381)
}

// P13.1, P13.3, P13.4: parts that were sent in order, of which some are gone: those that arrive stay, and in the end those that do not are lost.
func TestSeries(t *testing.T) {
	for seed := range 60 {
		roll := dice(seed)
		gone := map[int]bool{}
		l := many(100)
		for i := range l {
			l[i].At = 10 * i
			gone[i] = i < 99 && roll(4) == 0
		}
		var k api.Rack
		next := 0
		for i, x := range slices.Clone(l) {
			if gone[i] {
				continue
			}
			now := x.At + 200
			var e, e2 api.Errno
			k, e = rack.Came(k, x, now, 150)
			l[i] = came(x)
			l, _, next, e2 = rack.Lost(k, l, now, rack.Slack(k, 150, 180))
			if e != api.OK || e2 != api.OK || k.Mixed || k.At != x.At || k.Took != 200 || k.Far != x.Seq+10 {
				t.Fatalf("seed %d: %v %d %d", seed, k, e, e2)
			}
			for j, y := range l {
				if y.Lost != (gone[j] && j < i) || y.Came != (!gone[j] && j <= i) {
					t.Fatalf("seed %d: after %d: %d is %v", seed, i, j, y)
				}
			}
		}
		if next != 0 {
			t.Fatalf("seed %d: one is still due at %d", seed, next)
		}
	}
}

// calls returns the lists that Lost returns for several states.
func calls(l []api.Sent) [][]api.Sent {
	a, _, _, _ := rack.Lost(api.Rack{}, l, 50, 0)
	b, _, _, _ := rack.Lost(api.Rack{At: 40, End: 200, Took: 20}, l, 50, 3)
	c, _, _, _ := rack.Lost(api.Rack{At: last, End: 0, Took: 0}, l, last, 0)
	d, _, _, _ := rack.Lost(api.Rack{At: last, End: 0, Took: last}, l, 50, longest)
	return [][]api.Sent{a, b, c, d}
}

// mixed returns n parts of 10 bytes in all states.
func mixed(n int) []api.Sent {
	l := many(n)
	for i := range l {
		l[i].Came, l[i].Lost = i%5 == 3, i%5 == 2
	}
	return l
}

// R3: the list that is given is not modified, nor what lies behind it.
func TestArgumentsKept(t *testing.T) {
	for _, n := range []int{0, 1, 2, 5, 9, 500} {
		whole := mixed(n + 20)
		calls(whole[:n])
		rack.Lost(api.Rack{At: -1}, whole[:n], 50, 0)
		rack.Lost(api.Rack{At: last}, whole[:n], -1, 0)
		if !slices.Equal(whole, mixed(n+20)) {
			t.Errorf("%d parts: the argument was modified", n)
		}
	}
	for why, l := range invalidLists() {
		before := slices.Clone(l)
		calls(l)
		if !slices.Equal(l, before) {
			t.Errorf("%s: the argument was modified", why)
		}
	}
}

// R3: results share no memory with the argument, nor is there any room behind them that does.
func TestResultsOwned(t *testing.T) {
	for _, n := range []int{1, 2, 3, 5, 9, 500} {
		whole := mixed(n + 20)
		for i, got := range calls(whole[:n]) {
			before := slices.Clone(got)
			for k := range whole {
				whole[k].Total += 1000
			}
			if len(got) != n || !slices.Equal(got, before) {
				t.Errorf("%d parts, call %d: the result was modified with the argument", n, i)
			}
			before = slices.Clone(whole)
			clear(got[:cap(got)])
			if !slices.Equal(whole, before) {
				t.Errorf("%d parts, call %d: the argument was modified with the result", n, i)
			}
		}
	}
}

// R3: no two results share memory, also where nothing becomes Lost.
func TestResultsApart(t *testing.T) {
	for _, n := range []int{1, 2, 3, 5, 9, 500} {
		l := append(make([]api.Sent, 0, 600), mixed(n)...)
		all := append(calls(l), calls(l)...)
		want := append(calls(l), calls(l)...)
		for i, got := range all {
			clear(got[:cap(got)])
			for k := i + 1; k < len(all); k++ {
				if !slices.Equal(all[k], want[k]) {
					t.Errorf("%d parts: result %d was modified with result %d", n, k, i)
				}
			}
		}
	}
}

// R5: nothing is kept from one call to the next one.
func TestCallsAgain(t *testing.T) {
	for range 20 {
		k := ordinary()
		expectCame(t, "again", k, part(300, 10, 600), 700, 50, api.Rack{At: 600, End: 310, Took: 100, Far: 310, Mixed: true, Quarters: 3})
		expectSlack(t, "again", k, 100, 1000, 100)
		expectLost(t, "again", k, tens(300, 310, 320), 395, 5, 405, 0, 1)
		if got, e := rack.Twice(k); e != api.OK || got.Quarters != 4 {
			t.Errorf("%v %d", got, e)
		}
	}
}
