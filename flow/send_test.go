package flow_test

import (
	"fmt"
	"slices"
	"testing"

	"fourinhand/api"
)

// P19.2: n, dsn and now at and beyond the ends of their ranges.
func TestSendArguments(t *testing.T) {
	for _, f := range []api.Flow{idle(), full()} {
		for _, n := range inside(1, 100) {
			a := expectSend(t, fmt.Sprint("n ", n), f, conf, 7, n, 9, api.OK)
			expectEqual(t, "Len", a.part.Len, n)
		}
		for _, n := range append(outside(1, 100), 0, -100) {
			expectSend(t, fmt.Sprint("n ", n), f, conf, 7, n, 9, api.ErrArg)
		}
		for _, n := range inside(0, last) {
			a := expectSend(t, fmt.Sprint("dsn ", n), f, conf, n, 10, 9, api.OK)
			expectEqual(t, "Dsn", a.part.Dsn, n)
			a = expectSend(t, fmt.Sprint("now ", n), f, conf, 7, 10, n, api.OK)
			expectEqual(t, "At", a.part.At, n)
		}
		for _, n := range outside(0, last) {
			expectSend(t, fmt.Sprint("dsn ", n), f, conf, n, 10, 9, api.ErrArg)
			expectSend(t, fmt.Sprint("now ", n), f, conf, 7, 10, n, api.ErrArg)
		}
	}
	c := confWith(func(c *api.Conf) { c.Mss, c.Most = 1460, 1460 })
	f := flowWith(idle(), func(f *api.Flow) { f.W = api.Win{Cwnd: 1460, Thresh: 1460} })
	expectSend(t, "the greatest part", f, c, 0, 1460, 0, api.OK)
	expectSend(t, "one more", f, c, 0, 1461, 0, api.ErrArg)
}

// P19.2: a flow that is not valid.
func TestSendInvalid(t *testing.T) {
	for _, f := range []api.Flow{idle(), full()} {
		for why, bad := range invalidFlows(f) {
			expectSend(t, why, bad, conf, 7, 10, 9, api.ErrArg)
			bad.Up = false
			expectSend(t, why+", not Up", bad, conf, 7, 10, 9, api.ErrArg)
		}
		for why, c := range invalidConfs() {
			expectSend(t, why, f, c, 7, 1, 9, api.ErrArg)
		}
	}
}

// P19.2: Next + n equal to 2^60, and one above.
func TestSendLast(t *testing.T) {
	for _, x := range []struct {
		next, n int
		e       api.Errno
	}{
		{last - 100, 100, api.OK}, {last - 99, 100, api.ErrArg}, {last - 99, 99, api.OK},
		{last - 1, 1, api.OK}, {last, 1, api.ErrArg}, {last - 1, 2, api.ErrArg}, {last, 100, api.ErrArg},
	} {
		f := flowWith(idle(), func(f *api.Flow) { f.Next = x.next })
		why := fmt.Sprintf("%d bytes from %d on", x.n, x.next)
		expectSend(t, why, f, conf, 7, x.n, 9, x.e)
		expectSend(t, why+" behind a part", busy(part(x.next-10, 10, 0)), conf, 7, x.n, 9, x.e)
	}
}

// P19.2: the bytes in flight and n together one below, equal to and one above Cwnd.
func TestSendWindow(t *testing.T) {
	for why, x := range map[string]struct {
		f      api.Flow
		flight int
	}{
		"nothing in flight":   {idle(), 0},
		"one part":            {busy(part(0, 60, 0)), 60},
		"two parts":           {busy(part(0, 60, 0), part(60, 40, 0)), 100},
		"one that has come":   {busy(part(0, 60, 0), came(part(60, 40, 0))), 60},
		"one that is lost":    {busy(lost(part(0, 60, 0)), part(60, 40, 0)), 40},
		"none that is waited": {busy(lost(part(0, 60, 0)), came(part(60, 40, 0))), 0},
		"more than Cwnd":      {busy(part(0, 1400, 0)), 1400},
	} {
		for _, cwnd := range []int{100, 101, 150, 200, 1400, 1500} {
			for n := 1; n <= 100; n++ {
				f := flowWith(x.f, func(f *api.Flow) { f.W = api.Win{Cwnd: cwnd, Thresh: 100000} })
				e := api.OK
				if x.flight+n > cwnd {
					e = api.ErrFull
				}
				expectSend(t, fmt.Sprintf("%s: %d bytes with Cwnd %d", why, n, cwnd), f, conf, 7, n, 9, e)
			}
		}
	}
}

// P19.2: 499 and 500 parts, whether they are in flight or not.
func TestSendParts(t *testing.T) {
	for _, n := range []int{0, 1, 498, 499} {
		f := idle()
		if n > 0 {
			f = many(n)
		}
		a := expectSend(t, fmt.Sprint(n, " parts"), f, conf, 7, 10, 9, api.OK)
		expectEqual(t, "parts", len(a.flow.L), n+1)
	}
	f := many(500)
	expectSend(t, "500 parts", f, conf, 7, 10, 9, api.ErrFull)
	for i := range f.L {
		f.L[i].Lost = true
	}
	expectSend(t, "500 lost parts", f, conf, 7, 10, 9, api.ErrFull)
	for i := range f.L {
		f.L[i].Came, f.L[i].Lost = true, false
	}
	expectSend(t, "500 parts that have come", f, conf, 7, 10, 9, api.ErrFull)
}

// P19.2: a flow that is not Up, and the order of the errors.
func TestSendErrors(t *testing.T) {
	for why, f := range map[string]api.Flow{"without parts": idle(), "with parts": full(), "with 500 parts": many(500), "with too much in flight": busy(part(0, 1001, 0))} {
		f.Up = false
		expectSend(t, "not Up, "+why, f, conf, 7, 10, 9, api.ErrNone)
		for _, up := range []bool{false, true} {
			f.Up = up
			expectSend(t, "no bytes, "+why, f, conf, 7, 0, 9, api.ErrArg)
			expectSend(t, "more than Mss, "+why, f, conf, 7, 101, 9, api.ErrArg)
			expectSend(t, "dsn -1, "+why, f, conf, -1, 10, 9, api.ErrArg)
			expectSend(t, "now -1, "+why, f, conf, 7, 10, -1, api.ErrArg)
		}
	}
	f := busy(part(last-2000, 1400, 0), part(last-600, 600, 0))
	expectSend(t, "full at the last position", f, conf, 7, 1, 9, api.ErrArg)
}

// P19.2: each field of the part, which is appended, and all that changes beside it.
func TestSendPart(t *testing.T) {
	f := full()
	want := flowWith(f, func(f *api.Flow) {
		x := api.Sent{Seq: 1350, Len: 30, Dsn: 4444, At: 5000, Tries: 1, Total: 900, Last: 650}
		f.L = append(f.L, x)
		f.Next = 1380
		f.T = api.Timer{Kind: api.Probe, At: 23000} // the least one of 18000 and 20000 later
	})
	a := expectSend(t, "a part", f, conf, 4444, 30, 5000, api.OK)
	expectSame(t, "a part", a, answer{flow: want, part: want.L[4]})

	a = expectSend(t, "the first part", idle(), conf, 5, 100, 0, api.OK)
	want = flowWith(idle(), func(f *api.Flow) {
		f.L = []api.Sent{{Len: 100, Dsn: 5, Tries: 1}}
		f.Next = 100
		f.T = api.Timer{Kind: api.Resend, At: 1000000}
	})
	expectSame(t, "the first part", a, answer{flow: want, part: want.L[0]})
}

// timerCase is a state of a flow, and the timer that is set in it 10 after a time at which something is sent.
type timerCase struct {
	why    string
	change func(f *api.Flow)
	c      api.Conf
	kind   int
	wait   int
}

// timerCases returns what a timer depends on.
func timerCases() []timerCase {
	short := confWith(func(c *api.Conf) { c.Longest = 3000 })
	return []timerCase{
		{"nothing measured", func(f *api.Flow) {}, conf, api.Resend, 1000000},
		{"nothing measured, probed", func(f *api.Flow) { f.Probed = true }, conf, api.Resend, 1000000},
		{"nothing measured, waiting at most 3000", func(f *api.Flow) {}, short, api.Resend, 3000},
		{"measured", func(f *api.Flow) { f.R = api.Rtt{Has: true, Srtt: 1000, Var: 500, Rto: 3500} }, conf, api.Probe, 2000},
		{"measured, probed", func(f *api.Flow) {
			f.R = api.Rtt{Has: true, Srtt: 1000, Var: 500, Rto: 3500}
			f.Probed = true
		}, conf, api.Resend, 3500},
		{"measured, probed, waiting at most 3000", func(f *api.Flow) {
			f.R = api.Rtt{Has: true, Srtt: 1000, Var: 500, Rto: 3500}
			f.Probed = true
		}, short, api.Resend, 3000},
		{"doubled, probed", func(f *api.Flow) {
			f.R = api.Rtt{Has: true, Srtt: 1000, Var: 500, Rto: 3500, Shift: 2}
			f.Probed = true
		}, conf, api.Resend, 14000},
	}
}

// P19.2: the timer is set at now, by R, L, Probed and Longest.
func TestSendTimer(t *testing.T) {
	for _, x := range timerCases() {
		f := flowWith(idle(), x.change)
		a := expectSend(t, x.why, f, x.c, 7, 10, 5000, api.OK)
		expectEqual(t, x.why, a.flow.T, api.Timer{Kind: x.kind, At: 5000 + x.wait})

		f = flowWith(busy(part(0, 10, 8000)), x.change) // sent later than now
		a = expectSend(t, x.why, f, x.c, 7, 10, 5000, api.OK)
		expectEqual(t, x.why, a.flow.T, api.Timer{Kind: x.kind, At: 5000 + x.wait})
	}
	a := expectSend(t, "at the last time", idle(), conf, 7, 10, last, api.OK)
	expectEqual(t, "at the last time", a.flow.T, api.Timer{Kind: api.Resend, At: last + 1000000})
}

// P19.3: no part is lost.
func TestAgainNone(t *testing.T) {
	expectAgain(t, "no parts", idle(), conf, 9, api.ErrNone)
	expectAgain(t, "one in flight", busy(part(0, 10, 0)), conf, 9, api.ErrNone)
	expectAgain(t, "one that has come", busy(came(part(0, 10, 0))), conf, 9, api.ErrNone)
	expectAgain(t, "several", busy(came(part(0, 10, 0)), part(10, 10, 0), tried(part(20, 10, 0), 5)), conf, 9, api.ErrNone)
	expectAgain(t, "none in a window that is full", busy(part(0, 1001, 0)), conf, 9, api.ErrNone)
}

// P19.3: the first lost part with fewer than 1000 Tries is selected.
func TestAgainTries(t *testing.T) {
	for _, x := range []struct {
		first, second int // Tries of two lost parts
		want          int // the position of the one that is sent, or -1
	}{
		{1, 1, 10}, {999, 1, 10}, {1000, 1, 20}, {1000, 999, 20}, {1000, 1000, -1}, {998, 1000, 10}, {500, 999, 10},
	} {
		f := busy(part(0, 10, 0), lost(tried(part(10, 10, 1), x.first)), lost(tried(part(20, 10, 2), x.second)), part(30, 10, 3))
		why := fmt.Sprintf("Tries %d and %d", x.first, x.second)
		if x.want < 0 {
			expectAgain(t, why, f, conf, 9, api.ErrNone)
			continue
		}
		a := expectAgain(t, why, f, conf, 9, api.OK)
		expectEqual(t, why, a.part.Seq, x.want)
	}
	expectAgain(t, "alone, 1000 Tries", busy(lost(tried(part(0, 10, 0), 1000))), conf, 9, api.ErrNone)
	a := expectAgain(t, "alone, 999 Tries", busy(lost(tried(part(0, 10, 0), 999))), conf, 9, api.OK)
	expectEqual(t, "Tries", a.part.Tries, 1000)
}

// P19.3: a lost part that fits into the window just, and just not, also where a later one would.
func TestAgainWindow(t *testing.T) {
	for _, x := range []struct {
		flight, n int
		e         api.Errno
	}{
		{900, 99, api.OK}, {900, 100, api.OK}, {900, 101, api.ErrFull}, {1000, 1, api.ErrFull}, {999, 1, api.OK},
		{1, 1000, api.ErrFull}, {0, 1000, api.OK}, {0, 1001, api.ErrFull},
	} {
		l := []api.Sent{lost(part(0, x.n, 0)), lost(part(x.n, 1, 0)), came(part(x.n+1, 1000, 0))}
		if x.flight > 0 {
			l = append(l, part(x.n+1001, x.flight, 0))
		}
		why := fmt.Sprintf("%d in flight, %d lost", x.flight, x.n)
		a := expectAgain(t, why, busy(l...), conf, 9, x.e)
		if x.e == api.OK {
			expectEqual(t, why, a.part.Seq, 0)
		}
	}
	f := busy(lost(tried(part(0, 10, 0), 1000)), lost(part(10, 200, 0)), lost(part(210, 10, 0)), part(220, 900, 0))
	expectAgain(t, "the first one may not be sent, the second one does not fit", f, conf, 9, api.ErrFull)
}

// P19.3: now at and beyond the ends of its range, flows that are not valid or not Up, and the order of the errors.
func TestAgainErrors(t *testing.T) {
	for _, n := range inside(0, last) {
		a := expectAgain(t, fmt.Sprint("now ", n), full(), conf, n, api.OK)
		expectEqual(t, "At", a.part.At, n)
	}
	tight := busy(lost(part(0, 10, 0)), part(10, 1000, 0))
	for why, f := range map[string]api.Flow{"a lost part": full(), "none": idle(), "one that does not fit": tight} {
		for _, up := range []bool{true, false} {
			f.Up = up
			for _, n := range outside(0, last) {
				expectAgain(t, fmt.Sprintf("%s, now %d", why, n), f, conf, n, api.ErrArg)
			}
			for bad, g := range invalidFlows(f) {
				expectAgain(t, why+", "+bad, g, conf, 9, api.ErrArg)
			}
			for bad, c := range invalidConfs() {
				expectAgain(t, why+", "+bad, f, c, 9, api.ErrArg)
			}
		}
		f.Up = false
		expectAgain(t, why+", not Up", f, conf, 9, api.ErrNone)
	}
}

// P19.3: the part as it is returned and kept, and all that changes beside it.
func TestAgainPart(t *testing.T) {
	f := full()
	f.L[1].Tries, f.L[1].Total, f.L[1].Last, f.L[1].Dsn = 3, 40, 50, 60
	want := flowWith(f, func(f *api.Flow) {
		f.L[1] = api.Sent{Seq: 1100, Len: 50, Dsn: 60, At: 5000, Tries: 4, Total: 40, Last: 50}
		f.T = api.Timer{Kind: api.Probe, At: 23000}
	})
	a := expectAgain(t, "a part", f, conf, 5000, api.OK)
	expectSame(t, "a part", a, answer{flow: want, part: want.L[1]})
}

// P19.3: the timer is set at now.
func TestAgainTimer(t *testing.T) {
	for _, x := range timerCases() {
		f := flowWith(busy(part(0, 10, 3000), lost(part(10, 10, 4000))), x.change)
		a := expectAgain(t, x.why, f, x.c, 5000, api.OK)
		expectEqual(t, x.why, a.flow.T, api.Timer{Kind: x.kind, At: 5000 + x.wait})

		f = flowWith(busy(part(0, 10, 9000), lost(part(10, 10, 4000))), x.change)
		a = expectAgain(t, x.why, f, x.c, 5000, api.OK)
		expectEqual(t, x.why, a.flow.T, api.Timer{Kind: x.kind, At: 5000 + x.wait})

		f = flowWith(busy(part(0, 10, 9000), lost(part(10, 10, 4000))), x.change)
		a = expectAgain(t, x.why, f, x.c, 12000, api.OK)
		expectEqual(t, x.why, a.flow.T, api.Timer{Kind: x.kind, At: 12000 + x.wait})
	}
}

// P19.3: one after the other, all lost parts are sent.
func TestAgainAll(t *testing.T) {
	f := busy(lost(part(0, 100, 0)), part(100, 100, 0), lost(part(200, 50, 0)), lost(part(250, 100, 0)))
	var seqs []int
	for now := range 3 {
		a := expectAgain(t, "all", f, conf, now, api.OK)
		f = a.flow
		seqs = append(seqs, a.part.Seq)
	}
	if !slices.Equal(seqs, []int{0, 200, 250}) {
		t.Errorf("%v", seqs)
	}
	expectAgain(t, "no more", f, conf, 9, api.ErrNone)
}
