package flow_test

import (
	"reflect"
	"slices"
	"testing"

	"fourinhand/api"
	"fourinhand/flow"
	"fourinhand/group"
	"fourinhand/least"
	"fourinhand/marks"
	"fourinhand/rack"
	"fourinhand/rate"
	"fourinhand/rtt"
	"fourinhand/sent"
	"fourinhand/timer"
	"fourinhand/vegas"
	"fourinhand/xmp"
)

// answer is all that a call returns.
type answer struct {
	flow  api.Flow
	part  api.Sent
	parts []api.Sent
	kind  int
	e     api.Errno
}

func sends(f api.Flow, c api.Conf, dsn, n, now int) answer {
	g, x, e := flow.Send(f, c, dsn, n, now)
	return answer{flow: g, part: x, e: e}
}

func agains(f api.Flow, c api.Conf, now int) answer {
	g, x, e := flow.Again(f, c, now)
	return answer{flow: g, part: x, e: e}
}

func hears(f api.Flow, c api.Conf, told api.Told) answer {
	g, l, e := flow.Heard(f, c, told)
	return answer{flow: g, parts: l, e: e}
}

func ticks(f api.Flow, c api.Conf, now int) answer {
	g, kind, e := flow.Tick(f, c, now)
	return answer{flow: g, kind: kind, e: e}
}

// spare returns a copy of l with more capacity than length, and something behind its end.
func spare[T any](l []T, something T) []T {
	r := slices.Repeat([]T{something}, len(l)+3)
	copy(r, l)
	return r[:len(l)]
}

// owned returns f with lists of its own, which have more capacity than length.
func owned(f api.Flow) api.Flow {
	f.L = spare(f.L, part(77, 7, 7))
	f.B.L = spare(f.B.L, api.Point{At: 77, N: 77})
	f.D.L = spare(f.D.L, 77)
	f.Delays = spare(f.Delays, 77)
	return f
}

// whole returns f with its lists up to their capacities.
func whole(f api.Flow) api.Flow {
	f.L = f.L[:cap(f.L)]
	f.B.L = f.B.L[:cap(f.B.L)]
	f.D.L = f.D.L[:cap(f.D.L)]
	f.Delays = f.Delays[:cap(f.Delays)]
	return f
}

// spoil changes all that the lists of f hold.
func spoil(f api.Flow) {
	f = whole(f)
	for i := range f.L {
		f.L[i] = part(-5, -5, -5)
	}
	for i := range f.B.L {
		f.B.L[i] = api.Point{At: -5, N: -5}
	}
	for i := range f.D.L {
		f.D.L[i] = -5
	}
	for i := range f.Delays {
		f.Delays[i] = -5
	}
}

// plain returns a copy of f in which empty lists are nil.
func plain(f api.Flow) api.Flow {
	f.L = append([]api.Sent(nil), f.L...)
	f.B.L = append([]api.Point(nil), f.B.L...)
	f.D.L = append([]int(nil), f.D.L...)
	f.Delays = append([]int(nil), f.Delays...)
	return f
}

// plainly returns a copy of a in which empty lists are nil.
func plainly(a answer) answer {
	a.flow = plain(a.flow)
	a.parts = append([]api.Sent(nil), a.parts...)
	return a
}

// expectSame checks that two answers are the same.
func expectSame(t *testing.T, why string, got, want answer) {
	t.Helper()
	if !reflect.DeepEqual(plainly(got), plainly(want)) {
		t.Errorf("%s:\n got %+v\nwant %+v", why, got, want)
	}
}

// expectOwn checks of a call of f that it changes no argument, that its answer shares no memory with one, that called again it answers the same, and that a valid flow remains valid.
func expectOwn(t *testing.T, why string, f api.Flow, c api.Conf, call func(f api.Flow) answer) answer {
	t.Helper()
	given := owned(f)
	before := plain(whole(given))
	a := call(given)
	if !reflect.DeepEqual(plain(whole(given)), before) {
		t.Errorf("%s: the flow that was given is changed", why)
	}
	answered := plainly(a)
	spoil(given)
	expectSame(t, why+": when what was given is changed", a, answered)

	given = owned(f)
	again := call(given)
	expectSame(t, why+": called again", again, answered)
	for i := range again.parts[:cap(again.parts)] {
		again.parts[:cap(again.parts)][i] = part(-6, -6, -6)
	}
	if !reflect.DeepEqual(plain(again.flow), answered.flow) {
		t.Errorf("%s: the flow changes with the parts", why)
	}
	spoil(again.flow)
	if !reflect.DeepEqual(plain(whole(given)), before) {
		t.Errorf("%s: what was given changes with the answer", why)
	}
	if a.e != api.OK {
		expectSame(t, why+": beside the error", a, answer{e: a.e})
	} else if !flow.May(a.flow, c) {
		t.Errorf("%s: %+v is not valid", why, a.flow)
	}
	return answered
}

// expectSend checks what Send returns, also that the window is kept to.
func expectSend(t *testing.T, why string, f api.Flow, c api.Conf, dsn, n, now int, e api.Errno) answer {
	t.Helper()
	a := expectOwn(t, why, f, c, func(f api.Flow) answer { return sends(f, c, dsn, n, now) })
	expectSame(t, why, a, sendsBy(f, c, dsn, n, now))
	if a.e != e {
		t.Errorf("%s: error %d instead of %d", why, a.e, e)
	}
	if a.e == api.OK && sent.Flight(a.flow.L) > a.flow.W.Cwnd {
		t.Errorf("%s: more in flight than the window", why)
	}
	return a
}

// expectAgain checks what Again returns, also that the window is kept to.
func expectAgain(t *testing.T, why string, f api.Flow, c api.Conf, now int, e api.Errno) answer {
	t.Helper()
	a := expectOwn(t, why, f, c, func(f api.Flow) answer { return agains(f, c, now) })
	expectSame(t, why, a, againsBy(f, c, now))
	if a.e != e {
		t.Errorf("%s: error %d instead of %d", why, a.e, e)
	}
	if a.e == api.OK && sent.Flight(a.flow.L) > a.flow.W.Cwnd {
		t.Errorf("%s: more in flight than the window", why)
	}
	return a
}

// expectHeard checks what Heard returns, also that not more is in flight then, and that Sacks is not changed or kept.
func expectHeard(t *testing.T, why string, f api.Flow, c api.Conf, told api.Told, e api.Errno) answer {
	t.Helper()
	a := expectOwn(t, why, f, c, func(f api.Flow) answer {
		given := told
		given.Sacks = spare(told.Sacks, api.Span{From: 77, Upto: 78})
		before := slices.Clone(given.Sacks[:cap(given.Sacks)])
		a := hears(f, c, given)
		if !slices.Equal(given.Sacks[:cap(given.Sacks)], before) {
			t.Errorf("%s: Sacks are changed", why)
		}
		return a
	})
	expectSame(t, why, a, hearsBy(f, c, told))
	if a.e != e {
		t.Errorf("%s: error %d instead of %d", why, a.e, e)
	}
	if a.e == api.OK && sent.Flight(a.flow.L) > sent.Flight(f.L) {
		t.Errorf("%s: more in flight than before", why)
	}
	return a
}

// expectTick checks what Tick returns, also that not more is in flight then.
func expectTick(t *testing.T, why string, f api.Flow, c api.Conf, now, kind int, e api.Errno) answer {
	t.Helper()
	a := expectOwn(t, why, f, c, func(f api.Flow) answer { return ticks(f, c, now) })
	expectSame(t, why, a, ticksBy(f, c, now))
	if a.e != e || a.kind != kind {
		t.Errorf("%s: %d and error %d instead of %d and %d", why, a.kind, a.e, kind, e)
	}
	if a.e == api.OK && sent.Flight(a.flow.L) > sent.Flight(f.L) {
		t.Errorf("%s: more in flight than before", why)
	}
	return a
}

// expectEqual checks one thing of an answer.
func expectEqual[T any](t *testing.T, why string, got, want T) {
	t.Helper()
	if !reflect.DeepEqual(got, want) {
		t.Errorf("%s: %v instead of %v", why, got, want)
	}
}

// isWithin reports whether n is in the range from low to high.
func isWithin(n, low, high int) bool { return n >= low && n <= high }

// isFine reports whether the document calls c valid.
func isFine(c api.Conf) bool {
	return isWithin(c.Mss, 1, 1460) && isWithin(c.Most, c.Mss, widest) &&
		1 <= c.Least && c.Least <= c.Longest && c.Longest <= longest && isWithin(c.Span, 1, longest) &&
		isWithin(c.Total, 1, greatest) && isWithin(c.Keep, 0, 65536) && isWithin(c.Weave, 0, 65536)
}

// isValid reports whether the document calls f valid for c.
func isValid(f api.Flow, c api.Conf) bool {
	if len(f.L) > 0 && sent.May(f.L) {
		if x := f.L[len(f.L)-1]; f.Next != x.Seq+x.Len {
			return false
		}
	}
	return isFine(c) && sent.May(f.L) && rtt.May(f.R) && least.May(f.B) && marks.May(f.M) && rate.May(f.D) && rack.May(f.K) &&
		xmp.May(f.W, c.Mss, c.Most) && timer.May(f.T) && group.May(f.Delays) && isWithin(f.Next, 0, last) && isWithin(f.Round, 0, last)
}

// sure returns a result that comes without an error.
func sure[T any](x T, e api.Errno) T {
	if e != api.OK {
		panic("an error that the document rules out")
	}
	return x
}

// flight returns the number of bytes in flight.
func flight(f api.Flow) int {
	n := 0
	for _, x := range f.L {
		if !x.Came && !x.Lost {
			n += x.Len
		}
	}
	return n
}

// timed returns f with the timer set.
func timed(f api.Flow, c api.Conf, now int) api.Flow {
	f.T = sure(timer.Set(f.R, f.L, f.Probed, now, c.Longest))
	return f
}

// sendsBy returns what the document says Send returns.
func sendsBy(f api.Flow, c api.Conf, dsn, n, now int) answer {
	f = plain(f)
	switch {
	case !isValid(f, c) || !isWithin(n, 1, c.Mss) || !isWithin(dsn, 0, last) || !isWithin(now, 0, last) || f.Next+n > last:
		return answer{e: api.ErrArg}
	case !f.Up:
		return answer{e: api.ErrNone}
	case flight(f)+n > f.W.Cwnd || len(f.L) == 500:
		return answer{e: api.ErrFull}
	}
	x := api.Sent{Seq: f.Next, Len: n, Dsn: dsn, At: now, Tries: 1, Total: f.D.Total, Last: f.D.Last}
	f.L = append(f.L, x)
	f.Next += n
	return answer{flow: timed(f, c, now), part: x}
}

// againsBy returns what the document says Again returns.
func againsBy(f api.Flow, c api.Conf, now int) answer {
	f = plain(f)
	i := slices.IndexFunc(f.L, func(x api.Sent) bool { return x.Lost && x.Tries < 1000 })
	switch {
	case !isValid(f, c) || !isWithin(now, 0, last):
		return answer{e: api.ErrArg}
	case !f.Up || i < 0:
		return answer{e: api.ErrNone}
	case flight(f)+f.L[i].Len > f.W.Cwnd:
		return answer{e: api.ErrFull}
	}
	f.L = sure(sent.Again(f.L, f.L[i].Seq, now))
	return answer{flow: timed(f, c, now), part: f.L[i]}
}

// ticksBy returns what the document says Tick returns.
func ticksBy(f api.Flow, c api.Conf, now int) answer {
	f = plain(f)
	if !isValid(f, c) || !isWithin(now, 0, last) {
		return answer{e: api.ErrArg}
	}
	final := -1
	for i, x := range f.L {
		if !x.Came && !x.Lost {
			final = i
		}
	}
	kind := timer.Due(f.T, now)
	if kind == api.Still {
		return answer{flow: f}
	}
	for i, x := range f.L {
		f.L[i].Lost = x.Lost || !x.Came && (kind == api.Resend || i == final)
	}
	f.Probed = kind == api.Probe
	if kind == api.Resend {
		f.R = sure(rtt.Double(f.R))
		f.W = sure(xmp.Loss(f.W, true, c.Mss, c.Most))
		f.Cut = true
	}
	return answer{flow: timed(f, c, now), kind: kind}
}

// hearsBy returns what the document says Heard returns.
func hearsBy(f api.Flow, c api.Conf, told api.Told) answer {
	f = plain(f)
	now := told.Now
	if !isValid(f, c) || !isWithin(now, 0, last) || !isWithin(told.Growth, 0, greatest) || !isWithin(told.Ace, 0, 7) || told.Ce >= 1<<24 {
		return answer{e: api.ErrArg}
	}
	if !f.Up {
		return answer{e: api.ErrNone}
	}
	l, fresh, e := sent.Heard(f.L, told.Got, told.Sacks)
	if e != api.OK {
		return answer{e: e}
	}
	f.L = l
	bytes := 0
	for _, x := range fresh {
		bytes += x.Len
	}
	f = timesBy(f, c, fresh, now) // steps 1 and 2

	// Step 3.
	m, n, e := marks.Heard(f.M, told.Ace, told.Ce, len(fresh), bytes)
	if e != api.OK {
		return answer{e: e}
	}
	f.M = m
	if f.D, e = rate.Came(f.D, max(now, f.D.Last), bytes); e != api.OK {
		return answer{e: e}
	}
	for _, x := range fresh[max(0, len(fresh)-1):] {
		if d, _, e := rate.Sample(f.D, x.Total, x.Last); e == api.OK {
			f.D = d
		}
	}

	f = windowBy(f, c, told, n, fresh, bytes) // steps 4 to 6

	// Step 7.
	f.Probed = f.Probed && len(fresh) == 0
	return answer{flow: timed(f, c, now), parts: fresh}
}

// baseBy returns the base delay.
func baseBy(f api.Flow, now int) int {
	n, _ := least.Of(f.B, now)
	return n
}

// timesBy executes the steps 1 and 2.
func timesBy(f api.Flow, c api.Conf, fresh []api.Sent, now int) api.Flow {
	var once []api.Sent
	for _, x := range fresh {
		if x.Tries == 1 {
			once = append(once, x)
		}
	}
	if n := len(once); n > 0 && once[n-1].At <= now {
		took := min(now-once[n-1].At, longest)
		f.R = sure(rtt.Sample(f.R, took, c.Least, c.Longest))
		if b, _, e := least.Met(f.B, now, took); e == api.OK {
			f.B = b
		}
		delay := 0
		if more := took - baseBy(f, now); more > 0 {
			delay = min(more/16, 1<<18)
		}
		f.Delays = sure(group.Add(f.Delays, delay))
	}
	for _, x := range fresh {
		if k, e := rack.Came(f.K, x, now, min(longest, baseBy(f, now))); e == api.OK {
			f.K = k
		}
	}
	return f
}

// windowBy executes the steps 4 to 6, where n is what marks.Heard returned.
func windowBy(f api.Flow, c api.Conf, told api.Told, n int, fresh []api.Sent, bytes int) api.Flow {
	base := baseBy(f, told.Now)
	// Step 4.
	if n > 0 && !f.Cut {
		part := f.M.Part
		if part == 0 {
			part = 1024
		}
		f.W, f.Cut = sure(xmp.Cut(f.W, part, c.Mss, c.Most)), true
	}
	if n == 0 {
		f.W = sure(xmp.Slow(f.W, bytes, c.Mss, c.Most))
	}
	// Step 5.
	if len(fresh) > 0 {
		l, gone, _, e := rack.Lost(f.K, f.L, told.Now, rack.Slack(f.K, min(base, longest), min(f.R.Srtt, longest)))
		f.L = sure(l, e)
		if gone > 0 && !f.Cut {
			f.W, f.Cut = sure(xmp.Loss(f.W, false, c.Mss, c.Most)), true
		}
	}
	// Step 6.
	if told.Got >= f.Round {
		f.M = sure(marks.Round(f.M))
		switch {
		case f.Cut:
		case c.Vegas:
			f.W = sure(vegas.Round(f.W, vegas.Queue(f.W.Cwnd, f.R.Srtt, base, c.Mss), told.Growth, c.Mss, c.Most))
		default:
			f.W = sure(xmp.Round(f.W, min(told.Growth, c.Mss), c.Mss, c.Most))
		}
		f.Round, f.Cut = f.Next, false
	}
	return f
}
