package flow_test

import (
	"fmt"
	"testing"

	"fourinhand/api"
)

// P19.5: nothing is due before the time of the timer, and nothing changes then.
func TestTickStill(t *testing.T) {
	for _, kind := range []int{api.Probe, api.Resend} {
		for _, at := range []int{0, 1, 20800, last, last + 1, 1 << 61} {
			for _, now := range []int{at - 1, at, at + 1, 0, last} {
				if now < 0 || now > last {
					continue
				}
				f := full()
				f.T = api.Timer{Kind: kind, At: at}
				due := api.Still
				if now >= at {
					due = kind
				}
				why := fmt.Sprintf("kind %d at %d, now %d", kind, at, now)
				a := expectTick(t, why, f, conf, now, due, api.OK)
				if due == api.Still {
					expectSame(t, why, a, answer{flow: f})
				}
			}
		}
	}
	for why, f := range map[string]api.Flow{"without parts": idle(), "without a timer": four()} {
		for _, now := range inside(0, last) {
			a := expectTick(t, why, f, conf, now, api.Still, api.OK)
			expectSame(t, why, a, answer{flow: f})
		}
	}
}

// P19.5: now beyond the ends of its range, and flows that are not valid.
func TestTickErrors(t *testing.T) {
	for why, f := range map[string]api.Flow{"a timer": full(), "no timer": idle()} {
		for _, n := range outside(0, last) {
			expectTick(t, fmt.Sprintf("%s, now %d", why, n), f, conf, n, 0, api.ErrArg)
		}
		for bad, g := range invalidFlows(f) {
			expectTick(t, why+", "+bad, g, conf, 30000, 0, api.ErrArg)
		}
		for bad, c := range invalidConfs() {
			expectTick(t, why+", "+bad, f, c, 30000, 0, api.ErrArg)
		}
	}
}

// P19.5: a Probe takes the last outstanding part alone for lost.
func TestTickProbe(t *testing.T) {
	f := full()
	want := flowWith(f, func(f *api.Flow) {
		f.L[3].Lost = true
		f.Probed = true
		f.T = api.Timer{Kind: api.Resend, At: 18500} // Rto behind the first part
	})
	a := expectTick(t, "a probe", f, conf, 20800, api.Probe, api.OK)
	expectSame(t, "a probe", a, answer{flow: want, kind: api.Probe})

	for _, x := range []struct {
		why    string
		l      []api.Sent
		behind int // which part is lost then, or -1
	}{
		{"one", []api.Sent{part(0, 10, 5)}, 0},
		{"three", []api.Sent{part(0, 10, 5), part(10, 10, 6), part(20, 10, 7)}, 2},
		{"three, the last one sent first", []api.Sent{part(0, 10, 7), part(10, 10, 6), part(20, 10, 5)}, 2},
		{"the last one has come", []api.Sent{part(0, 10, 5), part(10, 10, 6), came(part(20, 10, 7))}, 1},
		{"the last one is lost", []api.Sent{part(0, 10, 5), part(10, 10, 6), lost(part(20, 10, 7))}, 1},
		{"only the first one is left", []api.Sent{part(0, 10, 5), lost(part(10, 10, 6)), came(part(20, 10, 7))}, 0},
		{"sent very often", []api.Sent{part(0, 10, 5), tried(part(10, 10, 6), 1000)}, 1},
		{"none is left", []api.Sent{lost(part(0, 10, 5)), came(part(10, 10, 6))}, -1},
	} {
		for _, probed := range []bool{false, true} {
			f := busy(x.l...)
			f.T = api.Timer{Kind: api.Probe, At: 100}
			f.Probed = probed
			a := expectTick(t, x.why, f, conf, 100, api.Probe, api.OK)
			expectEqual(t, x.why, a.flow.Probed, true)
			for i := range x.l {
				expectEqual(t, fmt.Sprint(x.why, ", part ", i), a.flow.L[i].Lost, x.l[i].Lost || i == x.behind)
			}
		}
	}
	f = idle()
	f.T = api.Timer{Kind: api.Probe, At: 100}
	a = expectTick(t, "no parts", f, conf, 100, api.Probe, api.OK)
	expectEqual(t, "no parts", a.flow.Probed, true)
	expectEqual(t, "no parts", a.flow.T, api.Timer{})
}

// P19.5: a Resend takes all outstanding parts for lost, waits twice as long, and reduces the window to one segment.
func TestTickResend(t *testing.T) {
	f := flowWith(full(), func(f *api.Flow) {
		f.T = api.Timer{Kind: api.Resend, At: 18500}
		f.Probed = true
	})
	want := flowWith(f, func(f *api.Flow) {
		f.L[0].Lost, f.L[3].Lost = true, true
		f.R.Shift = 1
		f.W = api.Win{Cwnd: 100, Thresh: 500}
		f.Cut, f.Probed = true, false
		f.T = api.Timer{}
	})
	a := expectTick(t, "a resend", f, conf, 18500, api.Resend, api.OK)
	expectSame(t, "a resend", a, answer{flow: want, kind: api.Resend})

	for _, cut := range []bool{false, true} {
		for _, x := range []struct{ shift, doubled, cwnd, thresh int }{
			{0, 1, 1000, 500}, {7, 8, 399, 200}, {15, 16, 401, 200}, {16, 16, 402, 201}, {3, 4, 100000, 50000},
		} {
			f.Cut, f.R.Shift, f.W.Cwnd = cut, x.shift, x.cwnd
			a := expectTick(t, fmt.Sprint(x), f, conf, 18500, api.Resend, api.OK)
			expectEqual(t, fmt.Sprint(x), a.flow.R.Shift, x.doubled)
			expectEqual(t, fmt.Sprint(x), a.flow.W, api.Win{Cwnd: 100, Thresh: x.thresh})
			expectEqual(t, fmt.Sprint(x), a.flow.Cut, true)
		}
	}
	f = idle()
	f.T = api.Timer{Kind: api.Resend, At: 100}
	f.R = api.Rtt{Shift: 2}
	a = expectTick(t, "no parts", f, conf, 100, api.Resend, api.OK)
	expectEqual(t, "no parts", a.flow.R, api.Rtt{Shift: 3})
	expectEqual(t, "no parts", a.flow.W, api.Win{Cwnd: 100, Thresh: 500})
}

// P19.5: behind a Probe, the timer is set at now, as probed.
func TestTickTimer(t *testing.T) {
	f := four()
	f.R = api.Rtt{Has: true, Srtt: 2000, Var: 1000, Rto: 6000}
	f.T = api.Timer{Kind: api.Probe, At: 150}
	a := expectTick(t, "sent earlier", f, conf, 9000, api.Probe, api.OK)
	expectEqual(t, "sent earlier", a.flow.T, api.Timer{Kind: api.Resend, At: 6300})
	a = expectTick(t, "sent later", f, conf, 150, api.Probe, api.OK)
	expectEqual(t, "sent later", a.flow.T, api.Timer{Kind: api.Resend, At: 6150})
	c := confWith(func(c *api.Conf) { c.Longest = 5000 })
	a = expectTick(t, "waiting at most 5000", f, c, 9000, api.Probe, api.OK)
	expectEqual(t, "waiting at most 5000", a.flow.T, api.Timer{Kind: api.Resend, At: 5300})
	a = expectTick(t, "the only one", busyProbed(part(0, 10, 100)), conf, 9000, api.Probe, api.OK)
	expectEqual(t, "the only one", a.flow.T, api.Timer{})
}

// busyProbed is a flow of which a Probe is due.
func busyProbed(l ...api.Sent) api.Flow {
	f := busy(l...)
	f.T = api.Timer{Kind: api.Probe, At: 100}
	return f
}

// P19.5: time goes by also for a flow that is not Up.
func TestTickDown(t *testing.T) {
	f := busyProbed(part(0, 10, 100))
	f.Up = false
	a := expectTick(t, "not Up", f, conf, 99, api.Still, api.OK)
	expectSame(t, "not Up", a, answer{flow: f})
	a = expectTick(t, "not Up", f, conf, 100, api.Probe, api.OK)
	expectEqual(t, "not Up", a.flow.Up, false)
	expectEqual(t, "not Up", a.flow.L[0].Lost, true)
}

// P19.3, P19.5: what was taken for lost is sent again, and the timer runs anew; each time that all is, the wait is doubled.
func TestTickAgain(t *testing.T) {
	f := expectSend(t, "once", idle(), conf, 0, 100, 50, api.OK).flow
	now := 50
	c := confWith(func(c *api.Conf) { c.Longest = 10000000 })
	for i, wait := range []int{1000000, 2000000, 4000000, 8000000, 10000000, 10000000} {
		if i > 0 { // the first timer was set with the Longest of conf
			expectEqual(t, "the timer", f.T, api.Timer{Kind: api.Resend, At: now + wait})
		}
		now = f.T.At
		f = expectTick(t, "one too early", f, c, now-1, api.Still, api.OK).flow
		f = expectTick(t, "in time", f, c, now, api.Resend, api.OK).flow
		f = expectTick(t, "when nothing is in flight", f, c, now+9, api.Still, api.OK).flow
		now += 10
		a := expectAgain(t, "again", f, c, now, api.OK)
		expectEqual(t, "Tries", a.part.Tries, i+2)
		f = a.flow
	}
}
