package timer_test

import (
	"math"
	"slices"
	"testing"

	"fourinhand/api"
	"fourinhand/rtt"
	"fourinhand/sent"
	"fourinhand/timer"
)

const (
	last     = 1 << 60 // the greatest now, and the greatest time of an estimate and of a part
	furthest = 1 << 61 // the greatest At of a timer
	longest  = 1 << 40 // the greatest most
)

// estimate returns the estimate of the document's example.
func estimate() api.Rtt { return api.Rtt{Has: true, Srtt: 80000, Var: 40000, Rto: 240000} }

// part returns a part that was sent once.
func part(seq, length, at int) api.Sent {
	return api.Sent{Seq: seq, Len: length, Dsn: 5000 + seq%1000, At: at, Tries: 1, Total: 300, Last: 60}
}

// came returns x as it is when it is told to have come.
func came(x api.Sent) api.Sent {
	x.Came, x.Lost = true, false
	return x
}

// lost returns x as it is when it is taken for lost.
func lost(x api.Sent) api.Sent {
	x.Came, x.Lost = false, true
	return x
}

// tens returns a part of 10 bytes for each of these times, the first one from 100 on.
func tens(at ...int) []api.Sent {
	var l []api.Sent
	for i, n := range at {
		l = append(l, part(100+10*i, 10, n))
	}
	return l
}

// many returns n parts of 10 bytes from 100 on, sent at 0, 1, 2 and so on.
func many(n int) []api.Sent {
	var at []int
	for i := range n {
		at = append(at, i)
	}
	return tens(at...)
}

// with returns l with x in the place i.
func with(l []api.Sent, i int, x api.Sent) []api.Sent {
	l = slices.Clone(l)
	l[i] = x
	return l
}

// gone returns l with every part Came or Lost, by turns.
func gone(l []api.Sent) []api.Sent {
	l = slices.Clone(l)
	for i, x := range l {
		if i%2 == 0 {
			l[i] = came(x)
		} else {
			l[i] = lost(x)
		}
	}
	return l
}

// short returns l, or what it begins with, to be told of.
func short(l []api.Sent) []api.Sent { return l[:min(len(l), 6)] }

func still() api.Timer              { return api.Timer{Kind: api.Still} }
func probe(at int) api.Timer        { return api.Timer{Kind: api.Probe, At: at} }
func resend(at int) api.Timer       { return api.Timer{Kind: api.Resend, At: at} }
func of(kind, at int) api.Timer     { return api.Timer{Kind: kind, At: at} }
func list(l ...int) []int           { return l }
func yesAndNo() []bool              { return []bool{false, true} }
func isOutstanding(x api.Sent) bool { return !x.Came && !x.Lost }

// validTimers returns valid timers, with the smallest and the greatest values of each Kind among them.
func validTimers() []api.Timer {
	return []api.Timer{
		{}, still(),
		probe(0), probe(1), probe(500), probe(last - 1), probe(last), probe(last + 1), probe(furthest - 1), probe(furthest),
		resend(0), resend(1), resend(500), resend(last - 1), resend(last), resend(last + 1), resend(furthest - 1), resend(furthest),
	}
}

// invalidTimers returns timers that are not valid because of one field, and why they are that.
func invalidTimers() map[string]api.Timer {
	return map[string]api.Timer{
		"a Kind of -1":                of(-1, 500),
		"a Kind of -1 without an At":  of(-1, 0),
		"the least Kind":              of(math.MinInt, 500),
		"the least Kind, without At":  of(math.MinInt, 0),
		"a Kind of 3":                 of(3, 500),
		"a Kind of 3 without an At":   of(3, 0),
		"the greatest Kind":           of(math.MaxInt, 500),
		"the greatest Kind, no At":    of(math.MaxInt, 0),
		"a Probe at -1":               probe(-1),
		"a Probe at the least int":    probe(math.MinInt),
		"a Probe at 2^61 + 1":         probe(furthest + 1),
		"a Probe at the greatest int": probe(math.MaxInt),
		"a Resend at -1":              resend(-1),
		"a Resend at the least int":   resend(math.MinInt),
		"a Resend at 2^61 + 1":        resend(furthest + 1),
		"a Resend at the greatest":    resend(math.MaxInt),
		"a Still timer at 1":          of(api.Still, 1),
		"a Still timer at 500":        of(api.Still, 500),
		"a Still timer at 2^61":       of(api.Still, furthest),
		"a Still timer at 2^61 + 1":   of(api.Still, furthest+1),
		"a Still timer at -1":         of(api.Still, -1),
		"a Still timer at the least":  of(api.Still, math.MinInt),
	}
}

// validEstimates returns valid estimates, and one each with the smallest and the greatest value of each field.
func validEstimates() []api.Rtt {
	return []api.Rtt{
		{}, {Shift: 1}, {Shift: 16}, {Rto: 1}, {Rto: 240000}, {Rto: last}, {Rto: last, Shift: 16},
		estimate(), {Has: true}, {Has: true, Srtt: 1}, {Has: true, Srtt: last}, {Has: true, Var: last}, {Has: true, Rto: 1}, {Has: true, Rto: last},
		{Has: true, Shift: 16}, {Has: true, Srtt: 80000, Var: 40000, Rto: 240000, Shift: 3}, {Has: true, Srtt: last, Var: last, Rto: last, Shift: 16},
		{Has: true, Srtt: 500, Rto: 999}, {Has: true, Srtt: 500, Rto: 1000}, {Has: true, Srtt: 500, Rto: 1001}, {Has: true, Srtt: longest, Rto: longest, Shift: 1},
	}
}

// invalidEstimates returns estimates that are not valid because of one field, and why they are that.
func invalidEstimates() map[string]api.Rtt {
	change := func(f func(r *api.Rtt)) api.Rtt {
		r := estimate()
		f(&r)
		return r
	}
	return map[string]api.Rtt{
		"an Srtt of -1":             change(func(r *api.Rtt) { r.Srtt = -1 }),
		"an Srtt of 2^60 + 1":       change(func(r *api.Rtt) { r.Srtt = last + 1 }),
		"the least Srtt":            change(func(r *api.Rtt) { r.Srtt = math.MinInt }),
		"the greatest Srtt":         change(func(r *api.Rtt) { r.Srtt = math.MaxInt }),
		"a Var of -1":               change(func(r *api.Rtt) { r.Var = -1 }),
		"a Var of 2^60 + 1":         change(func(r *api.Rtt) { r.Var = last + 1 }),
		"the greatest Var":          change(func(r *api.Rtt) { r.Var = math.MaxInt }),
		"an Rto of -1":              change(func(r *api.Rtt) { r.Rto = -1 }),
		"an Rto of 2^60 + 1":        change(func(r *api.Rtt) { r.Rto = last + 1 }),
		"the least Rto":             change(func(r *api.Rtt) { r.Rto = math.MinInt }),
		"the greatest Rto":          change(func(r *api.Rtt) { r.Rto = math.MaxInt }),
		"a Shift of -1":             change(func(r *api.Rtt) { r.Shift = -1 }),
		"a Shift of 17":             change(func(r *api.Rtt) { r.Shift = 17 }),
		"the greatest Shift":        change(func(r *api.Rtt) { r.Shift = math.MaxInt }),
		"an Srtt of 1 without Has":  {Srtt: 1},
		"a Var of 1 without Has":    {Var: 1},
		"an Rto of -1 without Has":  {Rto: -1},
		"a Shift of 17 without Has": {Shift: 17},
		"only Has is missing":       {Srtt: 80000, Var: 40000, Rto: 240000},
	}
}

// invalidParts returns parts from 20 on that are not valid because of one field, and why they are that.
func invalidParts() map[string]api.Sent {
	change := func(f func(x *api.Sent)) api.Sent {
		x := part(20, 10, 70)
		f(&x)
		return x
	}
	return map[string]api.Sent{
		"a Seq of -1":         change(func(x *api.Sent) { x.Seq = -1 }),
		"a Seq of 2^60 + 1":   change(func(x *api.Sent) { x.Seq = last + 1 }),
		"the greatest Seq":    change(func(x *api.Sent) { x.Seq = math.MaxInt }),
		"a Dsn of -1":         change(func(x *api.Sent) { x.Dsn = -1 }),
		"a Dsn of 2^60 + 1":   change(func(x *api.Sent) { x.Dsn = last + 1 }),
		"an At of -1":         change(func(x *api.Sent) { x.At = -1 }),
		"an At of 2^60 + 1":   change(func(x *api.Sent) { x.At = last + 1 }),
		"the least At":        change(func(x *api.Sent) { x.At = math.MinInt }),
		"the greatest At":     change(func(x *api.Sent) { x.At = math.MaxInt }),
		"a Total of -1":       change(func(x *api.Sent) { x.Total = -1 }),
		"a Total of 2^60 + 1": change(func(x *api.Sent) { x.Total = last + 1 }),
		"a Last of -1":        change(func(x *api.Sent) { x.Last = -1 }),
		"a Last of 2^60 + 1":  change(func(x *api.Sent) { x.Last = last + 1 }),
		"a Len of 0":          change(func(x *api.Sent) { x.Len = 0 }),
		"a Len of -1":         change(func(x *api.Sent) { x.Len = -1 }),
		"a Len of 1461":       change(func(x *api.Sent) { x.Len = 1461 }),
		"the greatest Len":    change(func(x *api.Sent) { x.Len = math.MaxInt }),
		"Tries of 0":          change(func(x *api.Sent) { x.Tries = 0 }),
		"Tries of -1":         change(func(x *api.Sent) { x.Tries = -1 }),
		"Tries of 1001":       change(func(x *api.Sent) { x.Tries = 1001 }),
		"Came and Lost":       change(func(x *api.Sent) { x.Came, x.Lost = true, true }),
		"the zero value":      {},
	}
}

// invalidLists returns lists that are not valid, and why they are that.
func invalidLists() map[string][]api.Sent {
	l := tens(0, 10, 20, 30)
	lists := map[string][]api.Sent{
		"501 parts":                      many(501),
		"501 parts that are all gone":    gone(many(501)),
		"1000 parts":                     many(1000),
		"a gap of one":                   {l[0], l[1], part(121, 10, 20)},
		"an overlap":                     {l[0], l[1], part(119, 10, 20)},
		"a part is gone":                 {l[0], l[1], l[3]},
		"twice the same":                 {l[0], l[0]},
		"parts that fall":                {l[1], l[0]},
		"a gap where all parts are gone": {came(l[0]), lost(l[1]), came(l[3])},
	}
	for i, place := range []string{"first", "second", "third", "last"} {
		for why, x := range invalidParts() {
			if x.Seq == 20 { // what is wrong is not its Seq
				x.Seq = 100 + 10*i
			}
			lists[why+", "+place] = with(l, i, x)
		}
	}
	return lists
}

// isValid reports whether the document calls x valid.
func isValid(x api.Timer) bool {
	if x.Kind < 0 || x.Kind > 2 || x.At < 0 || x.At > furthest {
		return false
	}
	return x.Kind != 0 || x.At == 0
}

// waits returns what chapter 8 says is waited for a valid estimate.
func waits(r api.Rtt, most int) int {
	n := 1000000
	if r.Has {
		n = r.Rto
	}
	for i := 0; i < r.Shift && n < most; i++ {
		n *= 2
	}
	if n > most {
		return most
	}
	return n
}

// determined returns what the document says Set is of arguments that it accepts.
func determined(r api.Rtt, l []api.Sent, probed bool, now, most int) api.Timer {
	var at []int
	for _, x := range l {
		if isOutstanding(x) {
			at = append(at, x.At)
		}
	}
	if len(at) == 0 {
		return api.Timer{Kind: 0, At: 0}
	}
	from := slices.Max(at)
	if from > now {
		from = now
	}
	wait := waits(r, most)
	if !r.Has || probed {
		return api.Timer{Kind: 2, At: from + wait}
	}
	sooner := 1000
	if 2*r.Srtt > sooner {
		sooner = 2 * r.Srtt
	}
	if sooner < wait {
		wait = sooner
	}
	return api.Timer{Kind: 1, At: from + wait}
}

// earliest returns what the document says First is.
func earliest(l []api.Timer) api.Timer {
	var first []api.Timer
	for _, x := range l {
		if isValid(x) && x.Kind != 0 {
			first = append(first, x)
		}
	}
	slices.SortStableFunc(first, func(x, y api.Timer) int {
		switch {
		case x.At < y.At:
			return -1
		case x.At > y.At:
			return 1
		}
		return 0
	})
	if len(first) == 0 {
		return api.Timer{}
	}
	return first[0]
}

// dice returns a function that returns numbers from 0 on below n, which depend on the seed only.
func dice(seed int) func(n int) int {
	state := uint64(seed)*2862933555777941757 + 3037000493
	return func(n int) int {
		state = state*6364136223846793005 + 1442695040888963407
		return int(state>>3) % n
	}
}

// expectSet checks the results of a Set that succeeds.
func expectSet(t *testing.T, why string, r api.Rtt, l []api.Sent, probed bool, now, most int, want api.Timer) {
	t.Helper()
	if got, e := timer.Set(r, l, probed, now, most); e != api.OK || got != want || !timer.May(got) {
		t.Errorf("%s: of %v and %v, probed %v, at %d, most %d: %v %d instead of %v", why, r, short(l), probed, now, most, got, e, want)
	}
}

// expectSetError checks that Set returns ErrArg and nothing else.
func expectSetError(t *testing.T, why string, r api.Rtt, l []api.Sent, now, most int) {
	t.Helper()
	for _, probed := range yesAndNo() {
		if got, e := timer.Set(r, l, probed, now, most); e != api.ErrArg || got != (api.Timer{}) {
			t.Errorf("%s: of %v and %v, probed %v, at %d, most %d: %v %d instead of ErrArg", why, r, short(l), probed, now, most, got, e)
		}
	}
}

// expectDue checks the result of Due.
func expectDue(t *testing.T, why string, x api.Timer, now, want int) {
	t.Helper()
	if got := timer.Due(x, now); got != want {
		t.Errorf("%s: %v at %d: %d instead of %d", why, x, now, got, want)
	}
}

// expectFirst checks the result of First.
func expectFirst(t *testing.T, why string, want api.Timer, l ...api.Timer) {
	t.Helper()
	if got := timer.First(l...); got != want {
		t.Errorf("%s: of %v: %v instead of %v", why, l, got, want)
	}
}

// P14.1, P14.2: timers with the smallest and the greatest value of each field, for each Kind.
func TestValidTimers(t *testing.T) {
	for _, x := range validTimers() {
		if !isValid(x) || !timer.May(x) {
			t.Errorf("%v is not valid", x)
		}
		expectDue(t, "valid", x, x.At, x.Kind)
		expectFirst(t, "valid", x, x)
	}
}

// P14.1, P14.2: timers that are not valid are never due and never the first ones.
func TestInvalidTimers(t *testing.T) {
	for why, x := range invalidTimers() {
		if isValid(x) || timer.May(x) {
			t.Errorf("%s: valid", why)
		}
		for _, now := range list(math.MinInt, -1, 0, x.At, 1000, last, furthest, furthest+1, math.MaxInt) {
			expectDue(t, why, x, now, api.Still)
		}
		expectFirst(t, why, still(), x)
		expectFirst(t, why, still(), still(), x, x)
		expectFirst(t, why, probe(700), x, probe(700))
		expectFirst(t, why, resend(700), resend(700), x)
		expectFirst(t, why, resend(furthest), probe(furthest+1), x, resend(furthest), x)
	}
}

// P14.1, P14.2: numbers at the edges in both fields, by the definition.
func TestTimerEdges(t *testing.T) {
	edges := list(math.MinInt, -furthest, -2, -1, 0, 1, 2, 3, 4, 500, 1<<32, 1<<32+1, last, furthest-1, furthest, furthest+1, math.MaxInt-1, math.MaxInt)
	for _, kind := range edges {
		for _, at := range edges {
			x := of(kind, at)
			if timer.May(x) != isValid(x) {
				t.Errorf("%v: %v", x, timer.May(x))
			}
			expectFirst(t, "edges", earliest([]api.Timer{x}), x)
			for _, now := range edges {
				want := api.Still
				if isValid(x) && at <= now {
					want = kind
				}
				expectDue(t, "edges", x, now, want)
			}
		}
	}
}

// P14.1: estimates with the smallest and the greatest value of each field are accepted.
func TestValidEstimates(t *testing.T) {
	for _, r := range validEstimates() {
		if !rtt.May(r) {
			t.Errorf("%v is not valid", r)
		}
		for _, probed := range yesAndNo() {
			for _, most := range list(1, 2, 999, 1000, 1001, 240000, 1000000, 1000001, longest-1, longest) {
				for _, l := range [][]api.Sent{nil, tens(100), tens(300, 100), gone(tens(300, 100)), {part(100, 10, last)}} {
					for _, now := range list(0, 1, 200, 300, 1000, last-1, last) {
						expectSet(t, "valid estimates", r, l, probed, now, most, determined(r, l, probed, now, most))
					}
				}
			}
		}
	}
}

// P14.1: ErrArg for estimates that are not valid, also where no part is outstanding.
func TestInvalidEstimates(t *testing.T) {
	for why, r := range invalidEstimates() {
		if rtt.May(r) {
			t.Errorf("%s: valid", why)
		}
		for _, l := range [][]api.Sent{nil, tens(100), tens(100, 200, 300), gone(tens(100, 200)), many(500)} {
			expectSetError(t, why, r, l, 400, 1000000)
			expectSetError(t, why, r, l, 0, 1)
		}
	}
}

// P14.1: lists of the smallest and the greatest size, and parts with the smallest and the greatest value of each field, are accepted.
func TestValidLists(t *testing.T) {
	for i, l := range [][]api.Sent{
		nil, {}, tens(0), tens(7), tens(last), many(499), many(500),
		{{Len: 1, Tries: 1}}, {{Seq: last, Len: 1460, Dsn: last, At: last, Tries: 1000, Total: last, Last: last}},
		{part(0, 1460, 5), part(1460, 1, 6)}, {came(part(0, 1, 5)), lost(part(1, 1460, 6))},
	} {
		if !sent.May(l) {
			t.Errorf("list %d is not valid", i)
		}
		for _, probed := range yesAndNo() {
			for _, now := range list(0, 6, 498, 499, 500, last) {
				expectSet(t, "valid lists", estimate(), l, probed, now, 1000000, determined(estimate(), l, probed, now, 1000000))
			}
		}
	}
}

// P14.1: ErrArg for lists that are not valid, also where no part of them is outstanding.
func TestInvalidLists(t *testing.T) {
	for why, l := range invalidLists() {
		if sent.May(l) {
			t.Errorf("%s: valid", why)
		}
		expectSetError(t, why, estimate(), l, 400, 1000000)
		expectSetError(t, why, estimate(), l, last, longest)
		expectSetError(t, why, api.Rtt{}, l, 400, 1000000)
	}
}

// P14.1: the smallest and the greatest now and most, and those beyond them.
func TestSetBounds(t *testing.T) {
	l := tens(100)
	for _, r := range []api.Rtt{{}, estimate()} {
		for _, some := range [][]api.Sent{nil, l, gone(l)} {
			for _, now := range list(math.MinInt, -last, -2, -1, last+1, last+2, furthest, math.MaxInt) {
				expectSetError(t, "now", r, some, now, 1000000)
			}
			for _, most := range list(math.MinInt, -longest, -1, 0, longest+1, longest+2, last, math.MaxInt) {
				expectSetError(t, "most", r, some, 400, most)
			}
			expectSetError(t, "now and most", r, some, -1, 0)
		}
	}
	expectSet(t, "a now of 0", estimate(), l, false, 0, 1000000, probe(160000))
	expectSet(t, "a now of 1", estimate(), l, false, 1, 1000000, probe(160001))
	expectSet(t, "a now of 2^60 - 1", estimate(), l, false, last-1, 1000000, probe(160100))
	expectSet(t, "a now of 2^60", estimate(), l, false, last, 1000000, probe(160100))
	expectSet(t, "a most of 1", estimate(), l, false, 400, 1, probe(101))
	expectSet(t, "a most of 2", estimate(), l, true, 400, 2, resend(102))
	expectSet(t, "a most of 2^40 - 1", estimate(), l, true, 400, longest-1, resend(240100))
	expectSet(t, "a most of 2^40", estimate(), l, true, 400, longest, resend(240100))
	expectSet(t, "the greatest now and most", api.Rtt{Has: true, Srtt: last, Rto: last}, tens(last), true, last, longest, resend(last+longest))
	expectSet(t, "the greatest now and most", api.Rtt{Has: true, Srtt: last, Rto: last}, tens(last), false, last, longest, probe(last+longest))
}

// P14.1, P14.3: a Still timer where no part is outstanding.
func TestSetStill(t *testing.T) {
	for why, l := range map[string][]api.Sent{
		"nil":                    nil,
		"no part":                {},
		"one that Came":          {came(part(100, 10, 300))},
		"one that is Lost":       {lost(part(100, 10, 300))},
		"two that Came":          {came(part(100, 10, 300)), came(part(110, 10, 400))},
		"two that are Lost":      {lost(part(100, 10, 300)), lost(part(110, 10, 400))},
		"one Came, one Lost":     {came(part(100, 10, 300)), lost(part(110, 10, 400))},
		"one Lost, one Came":     {lost(part(100, 10, 300)), came(part(110, 10, 400))},
		"500 that are all gone":  gone(many(500)),
		"one that Came later":    {came(part(100, 10, last))},
		"one that is Lost, at 0": {lost(part(100, 10, 0))},
	} {
		for _, r := range validEstimates() {
			for _, probed := range yesAndNo() {
				for _, now := range list(0, 350, last) {
					expectSet(t, why, r, l, probed, now, 1000000, still())
				}
			}
		}
	}
}

// P14.1, P14.3: one outstanding part, wherever it is, sets the timer, and the others do not count.
func TestSetOneOutstanding(t *testing.T) {
	for _, n := range list(1, 2, 3, 7, 500) {
		for _, i := range list(0, n/2, n-1) {
			for _, at := range list(5000, 300, 0) { // above, among and below the times of the others
				l := gone(many(n))
				l[i] = part(l[i].Seq, 10, at)
				expectSet(t, "one outstanding", estimate(), l, false, 6000, 1000000, probe(at+160000))
				expectSet(t, "one outstanding", estimate(), l, true, 6000, 1000000, resend(at+240000))
				expectSet(t, "one outstanding", api.Rtt{}, l, false, 6000, 1000000, resend(at+1000000))
			}
		}
	}
	for i := range 5 {
		l := with(gone(tens(10, 20, 30, 40, 50)), i, part(100+10*i, 10, 25))
		expectSet(t, "one of five", estimate(), l, false, 60, 1000000, probe(160025))
		again := l[i]
		again.Tries = 1000
		expectSet(t, "one of five, sent again", estimate(), with(l, i, again), true, 60, 1000000, resend(240025))
	}
}

// P14.1: the greatest At of the outstanding parts, wherever it is.
func TestSetLast(t *testing.T) {
	for _, c := range []struct {
		why  string
		l    []api.Sent
		last int
	}{
		{"the first one", tens(340, 310, 330, 320), 340},
		{"the second one", tens(310, 340, 330, 320), 340},
		{"the third one", tens(310, 330, 340, 320), 340},
		{"the last one", tens(310, 330, 320, 340), 340},
		{"two at the same time", tens(310, 340, 340, 320), 340},
		{"all at the same time", tens(340, 340, 340, 340), 340},
		{"the first one Came", with(tens(340, 310, 330, 320), 0, came(part(100, 10, 340))), 330},
		{"the first one is Lost", with(tens(340, 310, 330, 320), 0, lost(part(100, 10, 340))), 330},
		{"a middle one Came", with(tens(310, 340, 330, 320), 1, came(part(110, 10, 340))), 330},
		{"a middle one is Lost", with(tens(310, 340, 330, 320), 1, lost(part(110, 10, 340))), 330},
		{"the last one Came", with(tens(310, 330, 320, 340), 3, came(part(130, 10, 340))), 330},
		{"the last one is Lost", with(tens(310, 330, 320, 340), 3, lost(part(130, 10, 340))), 330},
		{"one that Came far later", with(tens(310, 330, 320, 340), 3, came(part(130, 10, last))), 330},
		{"one that is Lost far later", with(tens(310, 330, 320, 340), 0, lost(part(100, 10, last))), 340},
		{"a smaller one Came", with(tens(310, 330, 320, 340), 1, came(part(110, 10, 330))), 340},
		{"all at 0", tens(0, 0, 0), 0},
	} {
		expectSet(t, c.why, estimate(), c.l, false, 1000, 1000000, probe(c.last+160000))
		expectSet(t, c.why, estimate(), c.l, true, 1000, 1000000, resend(c.last+240000))
		expectSet(t, c.why, api.Rtt{Shift: 1}, c.l, false, 1000, 5000000, resend(c.last+2000000))
	}
}

// P14.1: a greatest At one below, at and above now.
func TestSetLastAndNow(t *testing.T) {
	for _, now := range list(1, 2, 300, 1000000, last-1) {
		for _, before := range [][]int{nil, {0}, {0, now - 1}} {
			expectSet(t, "one below now", estimate(), tens(append(before, now-1)...), false, now, 1000000, probe(now-1+160000))
			expectSet(t, "at now", estimate(), tens(append(before, now)...), false, now, 1000000, probe(now+160000))
			expectSet(t, "one above now", estimate(), tens(append(before, now+1)...), false, now, 1000000, probe(now+160000))
			expectSet(t, "one below now", estimate(), tens(append(before, now-1)...), true, now, 1000000, resend(now-1+240000))
			expectSet(t, "at now", estimate(), tens(append(before, now)...), true, now, 1000000, resend(now+240000))
			expectSet(t, "one above now", estimate(), tens(append(before, now+1)...), true, now, 1000000, resend(now+240000))
			expectSet(t, "far above now", estimate(), tens(append(before, last)...), true, now, 1000000, resend(now+240000))
		}
		l := []api.Sent{part(100, 10, now-1), came(part(110, 10, now)), lost(part(120, 10, now+1))}
		expectSet(t, "one below now, others gone", estimate(), l, false, now, 1000000, probe(now-1+160000))
	}
	expectSet(t, "all above now", estimate(), tens(20, 30, 40), false, 10, 1000000, probe(160010))
	expectSet(t, "some above now", estimate(), tens(20, 30, 40), false, 25, 1000000, probe(160025))
	expectSet(t, "all above a now of 0", estimate(), tens(20, 30, 40), true, 0, 1000000, resend(240000))
}

// P14.1: Has set and not set, each with probed true and false.
func TestSetKind(t *testing.T) {
	l := tens(100)
	expectSet(t, "Has, not probed", estimate(), l, false, 400, 1000000, probe(160100))
	expectSet(t, "Has, probed", estimate(), l, true, 400, 1000000, resend(240100))
	for _, probed := range yesAndNo() {
		expectSet(t, "no Has", api.Rtt{}, l, probed, 400, 2000000, resend(1000100))
		expectSet(t, "no Has, an Rto that is not used", api.Rtt{Rto: 5}, l, probed, 400, 2000000, resend(1000100))
		expectSet(t, "no Has, cut", api.Rtt{}, l, probed, 400, 999999, resend(1000099))
		expectSet(t, "no Has, doubled", api.Rtt{Shift: 3}, l, probed, 400, 9000000, resend(8000100))
	}
	// Var does not count by itself.
	expectSet(t, "another Var", api.Rtt{Has: true, Srtt: 80000, Var: last, Rto: 240000}, l, false, 400, 1000000, probe(160100))
	expectSet(t, "another Var", api.Rtt{Has: true, Srtt: 80000, Var: last, Rto: 240000}, l, true, 400, 1000000, resend(240100))
}

// P14.1: a wait one below, at and above the greater one of 2 * Srtt and 1000.
func TestSetProbe(t *testing.T) {
	l := tens(100)
	for _, c := range []struct{ srtt, sooner int }{
		{0, 1000}, {1, 1000}, {498, 1000}, {499, 1000}, {500, 1000}, {501, 1002}, {502, 1004}, {1000, 2000}, {80000, 160000}, {1 << 38, 1 << 39},
	} {
		for _, by := range list(-1, 0, 1, 2, 100000) {
			r := api.Rtt{Has: true, Srtt: c.srtt, Rto: c.sooner + by}
			expectSet(t, "by Rto", r, l, false, 400, longest, probe(100+c.sooner+min(by, 0)))
			expectSet(t, "by Rto, probed", r, l, true, 400, longest, resend(100+c.sooner+by))
			most := c.sooner + by
			r.Rto = longest
			expectSet(t, "by most", r, l, false, 400, most, probe(100+c.sooner+min(by, 0)))
			expectSet(t, "by most, probed", r, l, true, 400, most, resend(100+most))
		}
		r := api.Rtt{Has: true, Srtt: c.srtt}
		expectSet(t, "an Rto of 0", r, l, false, 400, longest, probe(100))
		expectSet(t, "an Rto of 0, probed", r, l, true, 400, longest, resend(100))
	}
	for _, srtt := range list(1<<39-1, 1<<39, 1<<39+1, longest, last-1, last) {
		r := api.Rtt{Has: true, Srtt: srtt, Rto: last}
		expectSet(t, "a great Srtt", r, l, false, 400, longest, probe(100+min(2*srtt, longest)))
		expectSet(t, "a great Srtt, cut", r, l, false, 400, 77, probe(177))
		r.Rto = 5
		expectSet(t, "a great Srtt, an Rto of 5", r, l, false, 400, longest, probe(105))
	}
}

// P14.1: Shift doubles the wait, and most cuts it, one below, at and above it.
func TestSetWait(t *testing.T) {
	l := tens(100)
	for shift := range 17 {
		r := api.Rtt{Has: true, Srtt: 1 << 39, Rto: 3000, Shift: shift}
		wait := 3000 << shift
		for _, most := range list(1, 2999, 3000, 3001, wait-1, wait, wait+1, 2*wait, longest) {
			expectSet(t, "doubled", r, l, true, 400, most, resend(100+min(wait, most)))
			expectSet(t, "doubled", r, l, false, 400, most, probe(100+min(wait, most)))
		}
		r.Srtt = 2000
		expectSet(t, "a Probe is doubled up to 2 * Srtt", r, l, false, 400, longest, probe(100+min(wait, 4000)))
		first := 1000000 << shift
		for _, most := range list(first-1, first, first+1) {
			for _, probed := range yesAndNo() {
				expectSet(t, "without Has", api.Rtt{Shift: shift}, l, probed, 400, most, resend(100+min(first, most)))
			}
		}
	}
}

// P14.1: three short parts in all states, by the definition.
func TestSetExhaustive(t *testing.T) {
	for bits := range 9 * 9 * 9 {
		l := []api.Sent{{Seq: 1, Len: 1, Tries: 1}, {Seq: 2, Len: 2, Tries: 2}, {Seq: 4, Len: 1, Tries: 1}}
		for i, b := 0, bits; i < 3; i, b = i+1, b/9 {
			l[i].At, l[i].Came, l[i].Lost = b%3, b/3%3 == 1, b/3%3 == 2
		}
		for n := range len(l) + 1 {
			for now := range 4 {
				for _, probed := range yesAndNo() {
					for _, r := range []api.Rtt{{}, {Has: true, Rto: 999}, {Has: true, Srtt: 501, Rto: 1003}} {
						expectSet(t, "exhaustive", r, l[:n], probed, now, 2000000, determined(r, l[:n], probed, now, 2000000))
					}
				}
			}
		}
	}
}

// state is a set of arguments that Set accepts.
type state struct {
	r         api.Rtt
	l         []api.Sent
	now, most int
}

// rolled returns some state.
func rolled(roll func(n int) int) state {
	var s state
	seq, end := roll(100), roll(2000)
	for range roll(30) {
		x := part(seq, 1+roll(20), roll(end+1))
		kind := roll(9)
		x.Came, x.Lost, x.Tries = kind < 4, kind > 4, 1+roll(3)
		s.l = append(s.l, x)
		seq += x.Len
	}
	if roll(3) > 0 {
		s.r = api.Rtt{Has: true, Srtt: roll(1500), Var: roll(700), Rto: roll(3000)}
	}
	s.r.Shift = roll(3)
	s.now, s.most = roll(end+100), 1+roll(9000)
	return s
}

// P14.1, P14.2: longer lists, by the definition; what is set is due from then on.
func TestSetLong(t *testing.T) {
	for seed := range 20000 {
		s := rolled(dice(seed))
		for _, probed := range yesAndNo() {
			want := determined(s.r, s.l, probed, s.now, s.most)
			expectSet(t, "longer lists", s.r, s.l, probed, s.now, s.most, want)
			expectDue(t, "what was set", want, want.At, want.Kind)
			expectDue(t, "what was set", want, want.At-1, api.Still)
		}
	}
}

// P14.3: the timer is set exactly when a part is outstanding, and a Probe is never later than the Resend would be.
func TestProbeNotLater(t *testing.T) {
	counts := map[int]int{}
	for seed := range 20000 {
		s := rolled(dice(seed))
		outstanding := slices.ContainsFunc(s.l, isOutstanding)
		a, e1 := timer.Set(s.r, s.l, false, s.now, s.most)
		b, e2 := timer.Set(s.r, s.l, true, s.now, s.most)
		if e1 != api.OK || e2 != api.OK || (a.Kind != api.Still) != outstanding || (b.Kind != api.Still) != outstanding {
			t.Fatalf("seed %d: %v %d, %v %d", seed, a, e1, b, e2)
		}
		if b.Kind == api.Probe || a.At > b.At || a.Kind == api.Resend && a != b {
			t.Fatalf("seed %d: %v is later than %v", seed, a, b)
		}
		counts[a.Kind]++
		if a.At < b.At {
			counts[-1]++
		}
	}
	for _, kind := range list(-1, api.Still, api.Probe, api.Resend) {
		if counts[kind] < 1000 {
			t.Errorf("only %d of %d", counts[kind], kind)
		}
	}
	for _, r := range validEstimates() {
		for _, most := range list(1, 999, 1000, 1001, 240000, longest) {
			a, _ := timer.Set(r, tens(last), false, last, most)
			b, _ := timer.Set(r, tens(last), true, last, most)
			if a.Kind == api.Still || b.Kind != api.Resend || a.At > b.At || b.At > last+most {
				t.Errorf("%v, most %d: %v and %v", r, most, a, b)
			}
		}
	}
}

// P14.1: the timer moves with each part: it starts anew when one is sent, goes back when one comes, and stops when all are gone.
func TestSetSeries(t *testing.T) {
	var l []api.Sent
	r := api.Rtt{}
	for i := range 50 {
		var e api.Errno
		l, e = sent.Send(l, part(10*i, 10, 100*i))
		if e != api.OK {
			t.Fatal(e)
		}
		expectSet(t, "one more is sent", r, l, false, 100*i, longest, resend(100*i+1000000))
	}
	r, _ = rtt.Sample(r, 5000, 1, longest)
	for i := 49; i >= 0; i-- {
		expectSet(t, "some are left", r, l, false, 5000, longest, probe(100*i+10000))
		expectSet(t, "some are left", r, l, true, 5000, longest, resend(100*i+15000))
		if i%2 == 0 {
			l[i] = came(l[i])
		} else {
			l[i] = lost(l[i])
		}
	}
	expectSet(t, "none is left", r, l, false, 5000, longest, still())
	l, e := sent.Again(l, 30, 5500)
	if e != api.OK {
		t.Fatal(e)
	}
	expectSet(t, "one is sent again", r, l, false, 5500, longest, probe(15500))
	r, _ = rtt.Double(r)
	expectSet(t, "one is sent again, doubled", r, l, true, 5500, longest, resend(35500))
}

// P14.2: now one before At, at At and one after it, for each Kind.
func TestDue(t *testing.T) {
	for _, kind := range list(api.Probe, api.Resend) {
		for _, at := range list(0, 1, 5, 160100, last-1, last, furthest-1, furthest) {
			x := of(kind, at)
			expectDue(t, "one before", x, at-1, api.Still)
			expectDue(t, "at At", x, at, kind)
			expectDue(t, "one after", x, at+1, kind)
			expectDue(t, "the greatest now", x, math.MaxInt, kind)
			for _, now := range list(math.MinInt, -furthest, -last, -2, -1) {
				expectDue(t, "a negative now", x, now, api.Still)
			}
		}
	}
	for _, now := range list(math.MinInt, -1, 0, 1, last, math.MaxInt) {
		expectDue(t, "Still", still(), now, api.Still)
	}
	for now := range 20 {
		want := api.Still
		if now >= 10 {
			want = api.Resend
		}
		expectDue(t, "as time passes", resend(10), now, want)
	}
}

// P14.2: the smallest At, wherever it is, and the first one of several.
func TestFirst(t *testing.T) {
	expectFirst(t, "no timer", still())
	expectFirst(t, "nil", still(), []api.Timer(nil)...)
	expectFirst(t, "a Still timer", still(), still())
	expectFirst(t, "Still timers", still(), still(), still(), still())
	expectFirst(t, "a Probe", probe(5), probe(5))
	expectFirst(t, "a Resend", resend(5), resend(5))
	expectFirst(t, "a Probe at 0", probe(0), probe(0))
	expectFirst(t, "a Resend at 2^61", resend(furthest), resend(furthest))
	expectFirst(t, "a Probe behind Still timers", probe(5), still(), still(), probe(5))
	expectFirst(t, "a Probe ahead of Still timers", probe(5), probe(5), still(), still())
	expectFirst(t, "a Resend among Still timers", resend(0), still(), resend(0), still())
	expectFirst(t, "two at the same time", probe(5), probe(5), resend(5))
	expectFirst(t, "two at the same time", resend(5), resend(5), probe(5))
	expectFirst(t, "two at 0", resend(0), resend(0), probe(0))
	expectFirst(t, "two at 2^61", probe(furthest), probe(furthest), resend(furthest))
	expectFirst(t, "two at the same time, a later one ahead", resend(5), probe(6), resend(5), probe(5), probe(7))
	expectFirst(t, "the first place", probe(4), probe(4), resend(5), probe(6), resend(7))
	expectFirst(t, "the second place", probe(4), resend(5), probe(4), probe(6), resend(7))
	expectFirst(t, "the third place", resend(4), resend(7), resend(5), resend(4), probe(6))
	expectFirst(t, "the last place", resend(4), resend(7), probe(6), resend(5), resend(4))
	expectFirst(t, "falling", probe(0), resend(4), resend(3), probe(2), resend(1), probe(0))
	expectFirst(t, "rising", probe(0), probe(0), resend(1), probe(2), resend(3), resend(4))
	expectFirst(t, "one apart at the end", resend(furthest-1), probe(furthest), resend(furthest-1))
}

// P14.2: timers that are not valid do not count, however small their At is.
func TestFirstInvalid(t *testing.T) {
	expectFirst(t, "a smaller At of a wrong Kind", resend(5), of(3, 1), resend(5), of(-1, 2))
	expectFirst(t, "a negative At", resend(5), probe(-1), resend(5), resend(math.MinInt))
	expectFirst(t, "a Still timer at 1", resend(5), of(api.Still, 1), resend(5))
	expectFirst(t, "Still timers and one at 2^61", probe(furthest), of(api.Still, 1), probe(furthest), still(), probe(furthest+1))
	expectFirst(t, "none is valid", still(), of(3, 1), probe(-1), resend(furthest+1), of(api.Still, 1))
	for why, x := range invalidTimers() {
		for i := range 4 {
			l := []api.Timer{resend(9), probe(8), resend(8)}
			expectFirst(t, why, probe(8), slices.Insert(l, i, x)...)
		}
	}
}

// P14.2: all lists of up to four of some timers, by the definition.
func TestFirstExhaustive(t *testing.T) {
	some := []api.Timer{still(), probe(0), resend(0), probe(1), resend(1), resend(furthest), probe(furthest + 1), resend(-1), of(3, 0), of(api.Still, 1)}
	for n := range 5 {
		count := 1
		for range n {
			count *= len(some)
		}
		for bits := range count {
			var l []api.Timer
			for b := bits; len(l) < n; b /= len(some) {
				l = append(l, some[b%len(some)])
			}
			expectFirst(t, "exhaustive", earliest(l), l...)
		}
	}
}

// P14.2: longer lists, by the definition.
func TestFirstLong(t *testing.T) {
	for seed := range 2000 {
		roll := dice(seed)
		var l []api.Timer
		for range roll(60) {
			l = append(l, of(roll(5)-1, roll(100)-2))
		}
		expectFirst(t, "longer lists", earliest(l), l...)
	}
	l := make([]api.Timer, 100000)
	expectFirst(t, "many Still timers", still(), l...)
	l[99999] = resend(7)
	expectFirst(t, "one behind many", resend(7), l...)
}

// P14.1: the document's example.
func TestExample(t *testing.T) {
	r := api.Rtt{Has: true, Srtt: 80000, Rto: 240000}
	for _, now := range list(100, 101, 400, 160100, last) {
		for _, most := range list(240000, 240001, 1000000, longest) {
			expectSet(t, "the example", r, tens(100), false, now, most, probe(160100))
			expectSet(t, "the example, probed", r, tens(100), true, now, most, resend(240100))
		}
	}
}

// R3: the list of parts is not modified, nor what lies behind it.
func TestPartsKept(t *testing.T) {
	call := func(l []api.Sent) {
		for _, probed := range yesAndNo() {
			timer.Set(estimate(), l, probed, 20, 1000000)
			timer.Set(api.Rtt{}, l, probed, last, longest)
			timer.Set(api.Rtt{Srtt: 1}, l, probed, 20, 1000000)
			timer.Set(estimate(), l, probed, -1, 0)
		}
	}
	mixed := func(n int) []api.Sent {
		l := many(n)
		for i := range l {
			l[i].Came, l[i].Lost = i%5 == 3, i%5 == 2
		}
		return l
	}
	for _, n := range list(0, 1, 2, 5, 9, 500) {
		whole := mixed(n + 20)
		call(whole[:n])
		if !slices.Equal(whole, mixed(n+20)) {
			t.Errorf("%d parts: the argument was modified", n)
		}
	}
	for why, l := range invalidLists() {
		before := slices.Clone(l)
		call(l)
		if !slices.Equal(l, before) {
			t.Errorf("%s: the argument was modified", why)
		}
	}
}

// R3: the list of timers is not modified, nor what lies behind it.
func TestTimersKept(t *testing.T) {
	whole := []api.Timer{resend(9), still(), probe(3), resend(3), probe(1), probe(-1), of(3, 0), of(api.Still, 1), resend(0), probe(0)}
	before := slices.Clone(whole)
	for n := range len(whole) + 1 {
		timer.First(whole[:n]...)
		timer.First(whole[n:]...)
		if !slices.Equal(whole, before) {
			t.Errorf("%d timers: the argument was modified", n)
		}
	}
}

// R5: nothing is kept from one call to the next one.
func TestCallsAgain(t *testing.T) {
	for range 20 {
		expectSet(t, "again", estimate(), tens(100, 200), false, 150, 1000000, probe(160150))
		expectSet(t, "again", estimate(), tens(100, 200), true, 300, 1000000, resend(240200))
		expectSetError(t, "again", estimate(), tens(100), -1, 1)
		expectSet(t, "again", estimate(), nil, false, 150, 1000000, still())
		expectDue(t, "again", probe(5), 5, api.Probe)
		expectDue(t, "again", probe(5), 4, api.Still)
		expectFirst(t, "again", resend(2), probe(3), resend(2))
		expectFirst(t, "again", still())
	}
}
