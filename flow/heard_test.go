package flow_test

import (
	"fmt"
	"math"
	"testing"

	"fourinhand/api"
)

// four is a flow with four parts in flight, sent at 100, 200, 300 and 400.
func four() api.Flow {
	return busy(part(1000, 100, 100), part(1100, 100, 200), part(1200, 100, 300), part(1300, 100, 400))
}

func spans(l ...api.Span) []api.Span { return l }

// hear checks what Heard returns without an error, and returns it.
func hear(t *testing.T, why string, f api.Flow, told api.Told) answer {
	t.Helper()
	return expectHeard(t, why, f, conf, told, api.OK)
}

// P19.4: each argument at and beyond the ends of its range.
func TestHeardArguments(t *testing.T) {
	type field struct {
		name      string
		low, high int
		set       func(x *api.Told, n int)
	}
	for _, r := range []field{
		{"Now", 0, last, func(x *api.Told, n int) { x.Now = n }},
		{"Growth", 0, greatest, func(x *api.Told, n int) { x.Growth = n }},
		{"Ace", 0, 7, func(x *api.Told, n int) { x.Ace = n }},
	} {
		for _, up := range []bool{true, false} {
			f, e := full(), api.OK
			if !up {
				f.Up, e = false, api.ErrNone
			}
			for _, n := range inside(r.low, r.high) {
				told := api.Told{Got: 1100, Now: 9000}
				r.set(&told, n)
				expectHeard(t, fmt.Sprint(r.name, " ", n), f, conf, told, e)
			}
			for _, n := range outside(r.low, r.high) {
				for _, got := range []int{1100, 0} {
					told := api.Told{Got: got, Now: 9000}
					r.set(&told, n)
					expectHeard(t, fmt.Sprint(r.name, " ", n), f, conf, told, api.ErrArg)
				}
			}
		}
	}
	for ce, e := range map[uint32]api.Errno{0: api.OK, 1: api.OK, 1<<24 - 1: api.OK, 1 << 24: api.ErrArg, 1<<24 + 1: api.ErrArg, math.MaxUint32: api.ErrArg} {
		f, told := full(), api.Told{Got: 1100, Now: 9000, Ce: ce}
		expectHeard(t, fmt.Sprint("Ce ", ce), f, conf, told, e)
		if e == api.OK {
			e = api.ErrNone
		}
		told.Got = 0
		expectHeard(t, fmt.Sprint("what was not sent, Ce ", ce), f, conf, told, e)
		f.Up = false
		expectHeard(t, fmt.Sprint("not Up, Ce ", ce), f, conf, told, e)
	}
}

// P19.4: the order of the errors.
func TestHeardErrors(t *testing.T) {
	bad := spans(api.Span{From: 5, Upto: 5})
	for why, f := range map[string]api.Flow{"with parts": full(), "without parts": idle()} {
		for _, up := range []bool{true, false} {
			f.Up = up
			for is, g := range invalidFlows(f) {
				expectHeard(t, why+", "+is, g, conf, api.Told{Got: 1100, Now: 9000}, api.ErrArg)
				expectHeard(t, why+", "+is, g, conf, api.Told{Got: 0, Now: 9000, Sacks: bad}, api.ErrArg)
			}
			for is, c := range invalidConfs() {
				expectHeard(t, why+", "+is, f, c, api.Told{Got: 1100, Now: 9000}, api.ErrArg)
			}
			expectHeard(t, why+", Now -1, bad spans", f, conf, api.Told{Got: 1100, Now: -1, Sacks: bad}, api.ErrArg)
		}
		f.Up = false
		expectHeard(t, why+", not Up", f, conf, api.Told{Got: 1100}, api.ErrNone)
		expectHeard(t, why+", not Up, bad spans", f, conf, api.Told{Got: 1100, Sacks: bad}, api.ErrNone)
		f.Up = true
		expectHeard(t, why+", bad spans", f, conf, api.Told{Got: 1100, Sacks: bad}, api.ErrArg)
		expectHeard(t, why+", bad spans and what was not sent", f, conf, api.Told{Got: 9999, Sacks: bad}, api.ErrArg)
	}
}

// P19.4: what was not sent cannot arrive: the error of sent.Heard is returned, and nothing else.
func TestHeardUnsent(t *testing.T) {
	for _, got := range append(outside(1000, 1400), 0) {
		expectHeard(t, fmt.Sprint("Got ", got), four(), conf, api.Told{Got: got, Now: 10000}, api.ErrNone)
	}
	for _, got := range []int{1000, 1001, 1400} {
		expectHeard(t, fmt.Sprint("Got ", got), four(), conf, api.Told{Got: got, Now: 10000}, api.OK)
	}
	for _, s := range []api.Span{{From: 999, Upto: 1200}, {From: 1300, Upto: 1401}, {From: 0, Upto: 1}, {From: 1400, Upto: 1500}} {
		told := api.Told{Got: 1100, Now: 10000, Sacks: spans(s)}
		expectHeard(t, fmt.Sprint(s), four(), conf, told, api.ErrNone)
	}
	told := api.Told{Got: 1000, Now: 10000, Sacks: spans(api.Span{From: 1000, Upto: 1100}, api.Span{From: 1300, Upto: 1400})}
	hear(t, "up to both ends", four(), told)
	for _, got := range []int{0, 1, 1000} {
		expectHeard(t, "no parts", idle(), conf, api.Told{Got: got, Now: 10000}, api.ErrNone)
	}
	told = api.Told{Got: 1100, Now: 10000, Ace: 3, Sacks: spans(api.Span{From: 3, Upto: 2})}
	expectHeard(t, "a span that is none", four(), conf, told, api.ErrArg)
}

// P19.4: one new part, and all that changes.
func TestHeardOne(t *testing.T) {
	f := four()
	want := flowWith(f, func(f *api.Flow) {
		f.L = f.L[1:]
		f.R = api.Rtt{Has: true, Srtt: 10000, Var: 5000, Rto: 30000}
		f.B.L = []api.Point{{At: 10100, N: 10000}}
		f.Delays = []int{0}
		f.K = api.Rack{At: 100, End: 1100, Took: 10000, Far: 1100}
		f.M = api.Marks{Came: 100}
		f.D = api.Rate{Total: 100, Last: 10100, L: []int{9900}}
		f.T = api.Timer{Kind: api.Probe, At: 20400}
	})
	a := hear(t, "one new part", f, api.Told{Got: 1100, Now: 10100})
	expectSame(t, "one new part", a, answer{flow: want, parts: f.L[:1]})
}

// P19.4: several new parts, and all that changes; the one that did not arrive is lost.
func TestHeardSeveral(t *testing.T) {
	f := four()
	want := flowWith(f, func(f *api.Flow) {
		f.L = []api.Sent{lost(f.L[1]), came(f.L[2]), came(f.L[3])}
		f.R = api.Rtt{Has: true, Srtt: 10000, Var: 5000, Rto: 30000}
		f.B.L = []api.Point{{At: 10400, N: 10000}}
		f.Delays = []int{0}
		f.K = api.Rack{At: 400, End: 1400, Took: 10000, Far: 1400}
		f.M = api.Marks{Came: 300}
		f.D = api.Rate{Total: 300, Last: 10400, L: []int{28846}}
		f.W = api.Win{Cwnd: 500, Thresh: 500}
		f.Cut = true
	})
	told := api.Told{Got: 1100, Now: 10400, Sacks: spans(api.Span{From: 1200, Upto: 1400})}
	a := hear(t, "several new parts", f, told)
	expectSame(t, "several new parts", a, answer{flow: want, parts: []api.Sent{f.L[0], f.L[2], f.L[3]}})

	// What has come already is not new.
	a = hear(t, "the last one", want, api.Told{Got: 1400, Now: 10500})
	expectEqual(t, "the last one", a.parts, []api.Sent{lost(f.L[1])})
	expectEqual(t, "the last one", a.flow.D.Total, 400)
	expectEqual(t, "the last one", len(a.flow.L), 0)
}

// P19.4: no new part.
func TestHeardNone(t *testing.T) {
	f := full()
	want := flowWith(f, func(f *api.Flow) {
		f.D.Last = 9000
		f.T = api.Timer{Kind: api.Probe, At: 18800}
	})
	a := hear(t, "nothing new", f, api.Told{Got: 1000, Now: 9000, Ace: 5, Ce: 500})
	expectSame(t, "nothing new", a, answer{flow: want})

	a = hear(t, "what has come already", f, api.Told{Got: 1000, Now: 9000, Ace: 5, Ce: 500, Sacks: spans(api.Span{From: 1150, Upto: 1250})})
	expectSame(t, "what has come already", a, answer{flow: want})

	a = hear(t, "a piece of a part", f, api.Told{Got: 1099, Now: 9000, Ace: 5, Ce: 500, Sacks: spans(api.Span{From: 1251, Upto: 1350})})
	expectSame(t, "a piece of a part", a, answer{flow: want})
}

// expectTook checks how long the answer took that was measured; nothing was if it is negative.
func expectTook(t *testing.T, why string, f api.Flow, told api.Told, took int) {
	t.Helper()
	a := hear(t, why, f, told)
	if took < 0 {
		expectEqual(t, why, a.flow.R, f.R)
		expectEqual(t, why, len(a.flow.B.L), len(f.B.L))
		expectEqual(t, why, len(a.flow.Delays), len(f.Delays))
		return
	}
	expectEqual(t, why, a.flow.R.Has, true)
	expectEqual(t, why, a.flow.R.Srtt, took)
	expectEqual(t, why, a.flow.B.L, []api.Point{{At: told.Now, N: took}})
	expectEqual(t, why, a.flow.Delays, []int{0})
}

// P19.4, step 1: the last new part with Tries 1 alone is measured, unless it was sent later than Now.
func TestHeardMeasured(t *testing.T) {
	at := func(l ...int) api.Flow {
		var parts []api.Sent
		for i, n := range l {
			x := part(10*i, 10, max(n, -n))
			if n < 0 {
				x.Tries = 2
			}
			parts = append(parts, x)
		}
		return busy(parts...)
	}
	for _, x := range []struct {
		why  string
		f    api.Flow // a negative time means that the part was sent again
		took int
	}{
		{"sent once", at(400), 600},
		{"sent again", at(-400), -1},
		{"all sent again", at(-400, -500), -1},
		{"of several the last one", at(300, 400, 700), 300},
		{"of several the last one, which was sent first", at(700, 400, 300), 700},
		{"once, again", at(400, -700), 600},
		{"again, once", at(-400, 700), 300},
		{"once, once, again, again", at(100, 400, -700, -800), 600},
		{"sent now", at(1000), 0},
		{"sent one later than now", at(1001), -1},
		{"the last one sent one later than now", at(400, 1001), -1},
		{"sent later, then again before now", at(400, 1001, -500), -1},
		{"the first one sent later", at(1001, 400), 600},
	} {
		expectTook(t, x.why, x.f, api.Told{Got: x.f.Next, Now: 1000}, x.took)
	}
	f := at(400, 700, 500)
	expectTook(t, "only what is new", f, api.Told{Got: 20, Now: 1000}, 300)
	f.L[1] = came(f.L[1])
	expectTook(t, "only what had not come", f, api.Told{Got: 20, Now: 1000}, 600)
	f.L[0] = tried(f.L[0], 1000)
	expectTook(t, "sent very often", f, api.Told{Got: 20, Now: 1000}, -1)
}

// P19.4, step 1: an answer takes at most 2^40.
func TestHeardMeasuredLong(t *testing.T) {
	for _, x := range []struct{ at, now, took int }{
		{0, longest - 1, longest - 1}, {0, longest, longest}, {0, longest + 1, longest}, {0, last, longest},
		{5, longest + 5, longest}, {last, last, 0}, {last - 7, last, 7},
	} {
		expectTook(t, fmt.Sprint(x), busy(part(0, 10, x.at)), api.Told{Got: 10, Now: x.now}, x.took)
	}
}

// P19.4, step 1: Least and Longest are the limits of Rto.
func TestHeardRto(t *testing.T) {
	for _, x := range []struct{ low, high, rto int }{{1, longest, 1800}, {1800, 1800, 1800}, {1801, 5000, 1801}, {5, 1799, 1799}} {
		c := confWith(func(c *api.Conf) { c.Least, c.Longest = x.low, x.high })
		a := expectHeard(t, fmt.Sprint(x), busy(part(0, 10, 400)), c, api.Told{Got: 10, Now: 1000}, api.OK)
		expectEqual(t, fmt.Sprint(x), a.flow.R.Rto, x.rto) // 600 + 4 * 300
	}
}

// based returns a flow with one part, sent at 0, and these points.
func based(l ...api.Point) api.Flow {
	return flowWith(busy(part(0, 10, 0)), func(f *api.Flow) { f.B = api.Least{Span: longest, L: l} })
}

// P19.4, step 1: the delay is (took - base delay) / 16, rounded down, in the range 0 to 2^18.
func TestHeardDelay(t *testing.T) {
	for _, x := range []struct{ more, want int }{
		{0, 0}, {1, 0}, {15, 0}, {16, 1}, {31, 1}, {32, 2}, {1600, 100},
		{1<<22 - 1, 1<<18 - 1}, {1 << 22, 1 << 18}, {1<<22 + 15, 1 << 18}, {1<<22 + 16, 1 << 18}, {1 << 30, 1 << 18},
	} {
		for _, base := range []int{0, 1, 1000} {
			why := fmt.Sprintf("%d more than %d", x.more, base)
			a := hear(t, why, based(api.Point{N: base}), api.Told{Got: 10, Now: base + x.more})
			expectEqual(t, why, a.flow.Delays, []int{x.want})
		}
	}
	f := flowWith(based(api.Point{N: 1000}), func(f *api.Flow) { f.Delays = []int{1, 2, 3, 4, 5, 6, 7, 8, 9, 10, 11, 12, 13, 14, 15, 16} })
	a := hear(t, "the last sixteen", f, api.Told{Got: 10, Now: 1160})
	expectEqual(t, "the last sixteen", a.flow.Delays, []int{2, 3, 4, 5, 6, 7, 8, 9, 10, 11, 12, 13, 14, 15, 16, 10})
}

// P19.4, step 1: a point later than Now keeps the minimum as it is, which may be more than took then.
func TestHeardDelayBelow(t *testing.T) {
	for _, x := range []struct{ base, want int }{
		{100, 56}, {999, 0}, {1000, 0}, {1001, 0}, {1015, 0}, {1016, 0}, {1017, 0}, {9000, 0}, {last, 0},
	} {
		f := based(api.Point{At: 1001, N: x.base})
		a := hear(t, fmt.Sprint(x), f, api.Told{Got: 10, Now: 1000})
		expectEqual(t, fmt.Sprint(x), a.flow.Delays, []int{x.want})
		expectEqual(t, fmt.Sprint(x), a.flow.B.L, f.B.L)
		expectEqual(t, fmt.Sprint(x), a.flow.R.Srtt, 1000)
	}
	a := hear(t, "a point at Now", based(api.Point{At: 1000, N: 9000}), api.Told{Got: 10, Now: 1000})
	expectEqual(t, "a point at Now", a.flow.B.L, []api.Point{{At: 1000, N: 1000}})
}

// P19.4, step 1: the base delay is that of the time Now, with the new number met.
func TestHeardDelayNow(t *testing.T) {
	old := flowWith(based(api.Point{N: 200}), func(f *api.Flow) { f.B.Span = 999 })
	a := hear(t, "a point that does not count any more", old, api.Told{Got: 10, Now: 1000})
	expectEqual(t, "a point that does not count any more", a.flow.Delays, []int{0})
	old.B.Span = 1000
	a = hear(t, "a point that counts still", old, api.Told{Got: 10, Now: 1000})
	expectEqual(t, "a point that counts still", a.flow.Delays, []int{50})

	high := flowWith(based(api.Point{N: 200}), func(f *api.Flow) { f.B.High = 7 })
	a = hear(t, "the window begins anew", high, api.Told{Got: 10, Now: 1000})
	expectEqual(t, "the window begins anew", a.flow.Delays, []int{0})
	expectEqual(t, "the window begins anew", a.flow.B, api.Least{Span: longest, L: []api.Point{{At: 1000, N: 1000}}})
}

// P19.4, step 2: each new part is recorded, but one that was sent later than Now is skipped.
func TestHeardRack(t *testing.T) {
	all := api.Told{Got: 30, Now: 1000}
	a := hear(t, "in order", busy(part(0, 10, 100), part(10, 10, 200), part(20, 10, 300)), all)
	expectEqual(t, "in order", a.flow.K, api.Rack{At: 300, End: 30, Took: 700, Far: 30})

	a = hear(t, "the last one sent later", busy(part(0, 10, 100), part(10, 10, 200), part(20, 10, 1001)), all)
	expectEqual(t, "the last one sent later", a.flow.K, api.Rack{At: 200, End: 20, Took: 800, Far: 20})

	a = hear(t, "the first one sent later", busy(part(0, 10, 1001), part(10, 10, 200), part(20, 10, 300)), all)
	expectEqual(t, "the first one sent later", a.flow.K, api.Rack{At: 300, End: 30, Took: 700, Far: 30})

	a = hear(t, "all sent later", busy(part(0, 10, 1001), part(10, 10, 1002), part(20, 10, 1003)), all)
	expectEqual(t, "all sent later", a.flow.K, api.Rack{})

	f := flowWith(busy(part(0, 10, 100), part(10, 10, 200)), func(f *api.Flow) { f.K = api.Rack{At: 150, End: 30, Far: 30, Quarters: 1} })
	a = hear(t, "behind another one", f, api.Told{Got: 10, Now: 1000})
	expectEqual(t, "behind another one", a.flow.K, api.Rack{At: 150, End: 30, Far: 30, Mixed: true, Quarters: 1})

	a = hear(t, "none", busy(part(0, 10, 100)), api.Told{Got: 0, Now: 1000})
	expectEqual(t, "none", a.flow.K, api.Rack{})
}

// P19.4, step 2: what was sent again less than the base delay ago has not arrived by that; the base delay is at most 2^40 there.
func TestHeardRackLeast(t *testing.T) {
	for _, x := range []struct {
		base, ago int
		counts    bool
	}{
		{500, 499, false}, {500, 500, true}, {500, 501, true}, {0, 0, true}, {1, 0, false}, {1, 1, true},
		{longest, longest - 1, false}, {longest, longest, true}, {longest + 1, longest - 1, false}, {longest + 1, longest, true},
		{last, longest - 1, false}, {last, longest, true},
	} {
		f := flowWith(busy(tried(part(0, 10, 100), 2)), func(f *api.Flow) {
			f.B = api.Least{Span: longest, L: []api.Point{{At: 100, N: x.base}}}
		})
		why := fmt.Sprintf("base delay %d, sent again %d ago", x.base, x.ago)
		want := api.Rack{Far: 10}
		if x.counts {
			want = api.Rack{At: 100, End: 10, Took: x.ago, Far: 10}
		}
		a := hear(t, why, f, api.Told{Got: 10, Now: 100 + x.ago})
		expectEqual(t, why, a.flow.K, want)
	}
	a := hear(t, "no base delay", busy(tried(part(0, 10, 100), 2)), api.Told{Got: 10, Now: 100})
	expectEqual(t, "no base delay", a.flow.K, api.Rack{At: 100, End: 10, Far: 10})

	// The base delay is what step 1 has made of it: 600 instead of 300.
	f := flowWith(busy(part(0, 10, 400), tried(part(10, 10, 500), 2)), func(f *api.Flow) {
		f.B = api.Least{Span: longest, L: []api.Point{{At: 100, N: 300}}, High: 7}
	})
	f.L[0].At = 300
	a = hear(t, "a base delay met just now", f, api.Told{Got: 20, Now: 1000})
	expectEqual(t, "a base delay met just now", a.flow.B.L, []api.Point{{At: 1000, N: 700}})
	expectEqual(t, "a base delay met just now", a.flow.K, api.Rack{At: 300, End: 10, Took: 700, Far: 20})
}

// P19.4, step 3: the marks are those of the new parts; from eight packets on, the most that the count can mean is assumed.
func TestHeardMarks(t *testing.T) {
	for _, x := range []struct {
		got, ace int
		ce       uint32
		want     api.Marks
	}{
		{10, 5, 500, api.Marks{Packets: 5, Bytes: 500, Came: 12, Marked: 1, Part: 200}},
		{10, 6, 501, api.Marks{Packets: 14, Bytes: 501, Came: 12, Marked: 2, Part: 200}},
		{10, 6, 600, api.Marks{Packets: 14, Bytes: 600, Came: 12, Marked: 11, Part: 200}},
		{7, 4, 507, api.Marks{Packets: 12, Bytes: 507, Came: 9, Marked: 8, Part: 200}},
		{8, 5, 501, api.Marks{Packets: 13, Bytes: 501, Came: 10, Marked: 2, Part: 200}},
		{7, 5, 501, api.Marks{Packets: 5, Bytes: 501, Came: 9, Marked: 2, Part: 200}},
		{19, 6, 501, api.Marks{Packets: 22, Bytes: 501, Came: 21, Marked: 2, Part: 200}},
		{0, 6, 501, api.Marks{Packets: 6, Bytes: 501, Came: 2, Marked: 1, Part: 200}},
	} {
		f := flowWith(many(20), func(f *api.Flow) {
			f.M = api.Marks{Packets: 5, Bytes: 500, Came: 2, Marked: 1, Part: 200}
		})
		a := hear(t, fmt.Sprint(x), f, api.Told{Got: x.got, Now: 1000, Ace: x.ace, Ce: x.ce})
		expectEqual(t, fmt.Sprint(x), a.flow.M, x.want)
	}
}

// P19.4, step 3: the errors of marks.Heard and of rate.Came are returned, with nothing else.
func TestHeardOver(t *testing.T) {
	for _, x := range []struct {
		why    string
		change func(f *api.Flow)
		told   api.Told
		e      api.Errno
	}{
		{"Packets", func(f *api.Flow) { f.M.Packets = last }, api.Told{Got: 1100}, api.OK},
		{"one packet too many", func(f *api.Flow) { f.M.Packets = last }, api.Told{Got: 1100, Ace: 1}, api.ErrOver},
		{"Bytes", func(f *api.Flow) { f.M.Bytes = last - 1 }, api.Told{Got: 1100, Ce: 0}, api.OK},
		{"one byte too many", func(f *api.Flow) { f.M.Bytes = last }, api.Told{Got: 1100, Ce: 1}, api.ErrOver},
		{"Came", func(f *api.Flow) { f.M.Came = last - 100 }, api.Told{Got: 1100}, api.OK},
		{"one too many came", func(f *api.Flow) { f.M.Came = last - 99 }, api.Told{Got: 1100}, api.ErrOver},
		{"too many came, all not new", func(f *api.Flow) { f.M.Came = last }, api.Told{Got: 1000}, api.OK},
		{"Total", func(f *api.Flow) { f.D.Total = last - 100 }, api.Told{Got: 1100}, api.OK},
		{"Total one too great", func(f *api.Flow) { f.D.Total = last - 99 }, api.Told{Got: 1100}, api.ErrOver},
		{"Total one too great, by several", func(f *api.Flow) { f.D.Total = last - 299 }, api.Told{Got: 1300}, api.ErrOver},
		{"Total great enough", func(f *api.Flow) { f.D.Total = last - 300 }, api.Told{Got: 1300}, api.OK},
		{"the greatest Total, nothing new", func(f *api.Flow) { f.D.Total = last }, api.Told{Got: 1000}, api.OK},
	} {
		x.told.Now = 10000
		expectHeard(t, x.why, flowWith(four(), x.change), conf, x.told, x.e)
	}
}

// P19.4, step 3: D tells when the last bytes came, which does not go back.
func TestHeardRate(t *testing.T) {
	for _, x := range []struct{ before, now, after int }{
		{0, 0, 0}, {900, 1000, 1000}, {1000, 1000, 1000}, {1001, 1000, 1001}, {last, 1000, last}, {5, last, last},
	} {
		for got, bytes := range map[int]int{1000: 0, 1100: 100, 1300: 300} {
			f := flowWith(four(), func(f *api.Flow) { f.D = api.Rate{Total: 70, Last: x.before} })
			a := hear(t, fmt.Sprint(x), f, api.Told{Got: got, Now: x.now})
			expectEqual(t, fmt.Sprint(x), a.flow.D.Last, x.after)
			expectEqual(t, fmt.Sprint(x), a.flow.D.Total, 70+bytes)
		}
	}
}

// P19.4, step 3: the last new part is sampled, however often it was sent; a sample that cannot be taken is none.
func TestHeardSample(t *testing.T) {
	for _, x := range []struct {
		why     string
		totals  [2]int // Total of two parts of 100 bytes, which arrive at 2000
		lasts   [2]int // and Last
		tries   int    // of the second one
		got     int
		samples []int
	}{
		{"the second one", [2]int{10, 60}, [2]int{500, 1000}, 1, 200, []int{7, 240000}},
		{"the second one, sent again", [2]int{10, 60}, [2]int{500, 1000}, 3, 200, []int{7, 240000}},
		{"the first one alone", [2]int{10, 60}, [2]int{500, 1000}, 1, 100, []int{7, 126666}},
		{"nothing", [2]int{10, 60}, [2]int{500, 1000}, 1, 0, []int{7}},
		{"sent just before", [2]int{10, 60}, [2]int{500, 1999}, 1, 200, []int{7, 240000000}},
		{"sent when all had come", [2]int{10, 300}, [2]int{500, 1000}, 1, 200, []int{7, 0}},
		{"sent when more had come", [2]int{10, 301}, [2]int{500, 1000}, 1, 200, []int{7}},
		{"sent at the time", [2]int{10, 60}, [2]int{500, 2000}, 1, 200, []int{7}},
		{"sent later", [2]int{10, 60}, [2]int{500, 2001}, 1, 200, []int{7}},
		{"the first one sent later", [2]int{301, 60}, [2]int{2001, 1000}, 1, 200, []int{7, 240000}},
	} {
		f := flowWith(busy(part(0, 100, 0), part(100, 100, 0)), func(f *api.Flow) {
			f.D = api.Rate{Total: 100, Last: 1500, L: []int{7}}
			f.L[1].Tries = x.tries
			for i := range f.L {
				f.L[i].Total, f.L[i].Last = x.totals[i], x.lasts[i]
			}
		})
		a := hear(t, x.why, f, api.Told{Got: x.got, Now: 2000})
		expectEqual(t, x.why, a.flow.D.L, x.samples)
	}
}

// P19.4, step 4: marks reduce a window that was not cut in this round; without marks it grows up to Thresh.
func TestHeardWindow(t *testing.T) {
	for _, x := range []struct {
		why      string
		ace      int
		cut      bool
		part     int
		win      api.Win
		want     api.Win
		wantsCut bool
	}{
		{"marks", 1, false, 512, api.Win{Cwnd: 1000, Thresh: 5000}, api.Win{Cwnd: 750, Thresh: 750}, true},
		{"several marks", 5, false, 512, api.Win{Cwnd: 1000, Thresh: 5000}, api.Win{Cwnd: 750, Thresh: 750}, true},
		{"marks, Part 0", 1, false, 0, api.Win{Cwnd: 1000, Thresh: 5000}, api.Win{Cwnd: 500, Thresh: 500}, true},
		{"marks, Part 1", 1, false, 1, api.Win{Cwnd: 2048, Thresh: 5000}, api.Win{Cwnd: 2047, Thresh: 2047}, true},
		{"marks, Part 1024", 1, false, 1024, api.Win{Cwnd: 1000, Thresh: 500}, api.Win{Cwnd: 500, Thresh: 500}, true},
		{"marks, the least window", 1, false, 1024, api.Win{Cwnd: 150, Thresh: 500}, api.Win{Cwnd: 100, Thresh: 100}, true},
		{"marks, cut already", 1, true, 512, api.Win{Cwnd: 1000, Thresh: 5000}, api.Win{Cwnd: 1000, Thresh: 5000}, true},
		{"marks, cut already, Part 0", 1, true, 0, api.Win{Cwnd: 1000, Thresh: 5000}, api.Win{Cwnd: 1000, Thresh: 5000}, true},
		{"no marks", 0, false, 512, api.Win{Cwnd: 1000, Thresh: 5000}, api.Win{Cwnd: 1200, Thresh: 5000}, false},
		{"no marks, cut already", 0, true, 512, api.Win{Cwnd: 1000, Thresh: 5000}, api.Win{Cwnd: 1200, Thresh: 5000}, true},
		{"no marks, up to Thresh", 0, false, 512, api.Win{Cwnd: 1000, Thresh: 1150}, api.Win{Cwnd: 1150, Thresh: 1150}, false},
		{"no marks, at Thresh", 0, false, 512, api.Win{Cwnd: 1000, Thresh: 1000}, api.Win{Cwnd: 1000, Thresh: 1000}, false},
		{"no marks, above Thresh", 0, false, 512, api.Win{Cwnd: 1000, Thresh: 500}, api.Win{Cwnd: 1000, Thresh: 500}, false},
		{"no marks, up to Most", 0, false, 512, api.Win{Cwnd: 99900, Thresh: 100000}, api.Win{Cwnd: 100000, Thresh: 100000}, false},
	} {
		f := flowWith(four(), func(f *api.Flow) { f.M.Part, f.W, f.Cut = x.part, x.win, x.cut })
		a := hear(t, x.why, f, api.Told{Got: 1200, Now: 10000, Ace: x.ace})
		expectEqual(t, x.why, a.flow.W, x.want)
		expectEqual(t, x.why, a.flow.Cut, x.wantsCut)
	}
}

// P19.4, step 4: it is what marks.Heard returns that counts, also without new parts and with marked bytes alone.
func TestHeardWindowMarks(t *testing.T) {
	f := flowWith(four(), func(f *api.Flow) { f.M = api.Marks{Packets: 8, Part: 512}; f.W.Thresh = 5000 })
	a := hear(t, "marks without new parts", f, api.Told{Got: 1000, Now: 10000, Ace: 1})
	expectEqual(t, "marks without new parts", a.flow.W, api.Win{Cwnd: 750, Thresh: 750})
	a = hear(t, "marked bytes alone", f, api.Told{Got: 1200, Now: 10000, Ce: 50})
	expectEqual(t, "marked bytes alone", a.flow.W, api.Win{Cwnd: 1200, Thresh: 5000})
	a = hear(t, "the count as before", f, api.Told{Got: 1000, Now: 10000})
	expectEqual(t, "the count as before", a.flow.W, api.Win{Cwnd: 1000, Thresh: 5000})
}

// P19.4, step 5: parts are lost only when new ones arrive; the window is reduced then, unless it was cut in this round.
func TestHeardLost(t *testing.T) {
	gap := api.Told{Got: 1000, Now: 10400, Sacks: spans(api.Span{From: 1300, Upto: 1400})}
	for _, x := range []struct {
		why       string
		cut       bool
		win, want api.Win
	}{
		{"not cut", false, api.Win{Cwnd: 1000, Thresh: 700}, api.Win{Cwnd: 500, Thresh: 500}},
		{"not cut, small", false, api.Win{Cwnd: 300, Thresh: 300}, api.Win{Cwnd: 200, Thresh: 200}},
		{"cut", true, api.Win{Cwnd: 1000, Thresh: 700}, api.Win{Cwnd: 1000, Thresh: 700}},
		{"not cut, below Thresh", false, api.Win{Cwnd: 1000, Thresh: 5000}, api.Win{Cwnd: 550, Thresh: 550}},
	} {
		f := flowWith(four(), func(f *api.Flow) { f.W, f.Cut = x.win, x.cut })
		a := hear(t, x.why, f, gap)
		expectEqual(t, x.why, a.flow.W, x.want)
		expectEqual(t, x.why, a.flow.Cut, true)
		expectEqual(t, x.why, a.flow.L, []api.Sent{lost(f.L[0]), lost(f.L[1]), lost(f.L[2]), came(f.L[3])})
	}
	// At 10200 the part that was sent at 300 has waited as long as the one sent at 400 took.
	f := flowWith(four(), func(f *api.Flow) { f.K = api.Rack{At: 400, End: 1400, Took: 9900} })
	a := hear(t, "nothing new", f, api.Told{Got: 1000, Now: 20000})
	expectEqual(t, "nothing new", a.flow.L, f.L)
	expectEqual(t, "nothing new", a.flow.Cut, false)
	a = hear(t, "the first one is new", f, api.Told{Got: 1100, Now: 10199})
	expectEqual(t, "the first one is new", a.flow.L, []api.Sent{lost(f.L[1]), f.L[2], f.L[3]})
	a = hear(t, "the first one is new, a little later", f, api.Told{Got: 1100, Now: 10200})
	expectEqual(t, "the first one is new, a little later", a.flow.L, []api.Sent{lost(f.L[1]), lost(f.L[2]), f.L[3]})
	a = hear(t, "nothing is lost", f, api.Told{Got: 1100, Now: 10099})
	expectEqual(t, "nothing is lost", a.flow.L, f.L[1:])
	expectEqual(t, "nothing is lost", a.flow.Cut, false)
	expectEqual(t, "nothing is lost", a.flow.W, f.W)
}

// P19.4, step 5: parts are waited for longer once some came out of order: for quarters of the base delay, at most Srtt.
func TestHeardSlack(t *testing.T) {
	for _, x := range []struct {
		base, srtt, quarters int
		mixed                bool
		slack                int
	}{
		{4000, 9000, 0, true, 1000}, {4000, 9000, 3, true, 4000}, {4000, 9000, 20, true, 9000}, {4003, 9000, 0, true, 1000},
		{4000, 500, 0, true, 500}, {0, 9000, 20, true, 0}, {4000, 9000, 3, false, 0},
		{longest, longest, 3, true, longest}, {longest + 1, longest + 1, 3, true, longest}, {last, last, 3, true, longest},
		{last, last, 0, true, longest / 4}, {last, 700, 3, true, 700}, {400, last, 7, true, 800}, {longest + 1, longest, 0, true, longest / 4},
		{longest, longest + 1, 20, true, longest},
	} {
		why := fmt.Sprint(x)
		// The second part is sent again and so not measured; its acknowledgement comes too early to count.
		f := flowWith(busy(part(0, 10, 100), tried(part(10, 10, 150), 2), part(20, 10, 160)), func(f *api.Flow) {
			f.R = api.Rtt{Has: true, Srtt: x.srtt, Rto: 9000}
			f.B = api.Least{Span: longest, L: []api.Point{{At: 150 + 2*longest, N: x.base}}}
			f.K = api.Rack{At: 200, End: 10, Took: 70, Far: 90, Mixed: x.mixed, Quarters: x.quarters}
		})
		told := api.Told{Got: 0, Sacks: spans(api.Span{From: 10, Upto: 20}), Now: 100 + 70 + x.slack - 1}
		if told.Now >= 150 {
			a := hear(t, why, f, told)
			expectEqual(t, why, a.flow.L[0].Lost, false)
		}
		told.Now++
		a := hear(t, why, f, told)
		expectEqual(t, why, a.flow.L[0].Lost, true)
	}
}

// P19.4, step 6: a round ends when Got is not less than Round.
func TestHeardRound(t *testing.T) {
	for _, x := range []struct {
		round int
		ends  bool
	}{{1201, false}, {1200, true}, {1199, true}, {1400, false}, {0, true}, {last, false}} {
		for _, cut := range []bool{false, true} {
			f := flowWith(four(), func(f *api.Flow) {
				f.Round, f.Cut = x.round, cut
				f.M = api.Marks{Came: 200, Marked: 100, Part: 16}
			})
			why := fmt.Sprintf("Round %d, Cut %v", x.round, cut)
			a := hear(t, why, f, api.Told{Got: 1200, Now: 10000, Growth: 50})
			m, win, round, is := api.Marks{Came: 400, Marked: 100, Part: 16}, f.W, x.round, cut
			if x.ends {
				m, round, is = api.Marks{Part: 31}, 1400, false // 16 + (256 - 16) / 16
				if !cut {
					win.Cwnd = 1050
				}
			}
			expectEqual(t, why, a.flow.M, m)
			expectEqual(t, why, a.flow.W, win)
			expectEqual(t, why, a.flow.Round, round)
			expectEqual(t, why, a.flow.Cut, is)
		}
	}
	f := flowWith(four(), func(f *api.Flow) { f.Round = 1000 })
	a := hear(t, "without new parts", f, api.Told{Got: 1000, Now: 10000, Growth: 50})
	expectEqual(t, "without new parts", a.flow.Round, 1400)
	expectEqual(t, "without new parts", a.flow.W.Cwnd, 1050)
}

// P19.4, step 6: a window that has reached Thresh grows by Growth, but at most by Mss.
func TestHeardGrowth(t *testing.T) {
	for _, x := range []struct {
		growth int
		win    api.Win
		want   int
	}{
		{0, api.Win{Cwnd: 1000, Thresh: 500}, 1000}, {1, api.Win{Cwnd: 1000, Thresh: 500}, 1001},
		{99, api.Win{Cwnd: 1000, Thresh: 500}, 1099}, {100, api.Win{Cwnd: 1000, Thresh: 500}, 1100},
		{101, api.Win{Cwnd: 1000, Thresh: 500}, 1100}, {greatest, api.Win{Cwnd: 1000, Thresh: 500}, 1100},
		{100, api.Win{Cwnd: 1000, Thresh: 1000}, 1100}, {100, api.Win{Cwnd: 99950, Thresh: 500}, 100000},
		{100, api.Win{Cwnd: 1000, Thresh: 1401}, 1400}, // step 4 does not reach Thresh
		{100, api.Win{Cwnd: 1000, Thresh: 1400}, 1500}, // step 4 reaches Thresh
	} {
		f := flowWith(four(), func(f *api.Flow) { f.W = x.win })
		a := hear(t, fmt.Sprint(x), f, api.Told{Got: 1400, Now: 10000, Growth: x.growth})
		expectEqual(t, fmt.Sprint(x), a.flow.W, api.Win{Cwnd: x.want, Thresh: x.win.Thresh})
	}
}

// P19.4, step 6: with Vegas, a window goes by how many segments are queued, of which Growth may be.
func TestHeardVegas(t *testing.T) {
	c := confWith(func(c *api.Conf) { c.Vegas = true })
	for _, x := range []struct {
		why    string
		growth int
		base   int // all answers take 2000
		cut    bool
		win    api.Win
		want   api.Win
	}{
		{"5 queued, 6 allowed", 6, 1000, false, api.Win{Cwnd: 1000, Thresh: 500}, api.Win{Cwnd: 1100, Thresh: 500}},
		{"5 queued, 5 allowed", 5, 1000, false, api.Win{Cwnd: 1000, Thresh: 500}, api.Win{Cwnd: 1000, Thresh: 500}},
		{"5 queued, 4 allowed", 4, 1000, false, api.Win{Cwnd: 1000, Thresh: 500}, api.Win{Cwnd: 900, Thresh: 500}},
		{"5 queued, none allowed", 0, 1000, false, api.Win{Cwnd: 1000, Thresh: 500}, api.Win{Cwnd: 900, Thresh: 500}},
		{"5 queued, as many allowed as may be", greatest, 1000, false, api.Win{Cwnd: 1000, Thresh: 500}, api.Win{Cwnd: 1100, Thresh: 500}},
		{"cut", 6, 1000, true, api.Win{Cwnd: 1000, Thresh: 500}, api.Win{Cwnd: 1000, Thresh: 500}},
		{"none queued", 1, 2000, false, api.Win{Cwnd: 1000, Thresh: 500}, api.Win{Cwnd: 1100, Thresh: 500}},
		{"none known", 0, 0, false, api.Win{Cwnd: 1000, Thresh: 500}, api.Win{Cwnd: 1000, Thresh: 500}},
		{"below Thresh, 7 queued, 7 allowed", 7, 1000, false, api.Win{Cwnd: 1000, Thresh: 5000}, api.Win{Cwnd: 1400, Thresh: 5000}},
		{"below Thresh, 7 queued, 6 allowed", 6, 1000, false, api.Win{Cwnd: 1000, Thresh: 5000}, api.Win{Cwnd: 1400, Thresh: 1400}},
		{"up to Most", 100, 1900, false, api.Win{Cwnd: 99950, Thresh: 500}, api.Win{Cwnd: 100000, Thresh: 500}},
	} {
		f := flowWith(four(), func(f *api.Flow) {
			f.R = api.Rtt{Has: true, Srtt: 2000, Var: 0, Rto: 3000}
			f.B.L = []api.Point{{At: 0, N: x.base}}
			f.W, f.Cut = x.win, x.cut
		})
		a := expectHeard(t, x.why, f, c, api.Told{Got: 1400, Now: 2400, Growth: x.growth}, api.OK)
		expectEqual(t, x.why, a.flow.R.Srtt, 2000)
		expectEqual(t, x.why, a.flow.W, x.want)
	}
}

// P19.4, step 6: with Vegas, Srtt and the base delay are not limited first.
func TestHeardVegasLong(t *testing.T) {
	c := confWith(func(c *api.Conf) { c.Vegas = true })
	for _, x := range []struct{ srtt, base, want int }{
		{longest, longest / 2, 900}, {longest + 1, longest / 2, 1100}, {last, 1, 1100}, {longest, longest + 1, 1100},
	} {
		f := flowWith(busy(tried(part(0, 10, 0), 2)), func(f *api.Flow) {
			f.R = api.Rtt{Has: true, Srtt: x.srtt, Rto: 3000}
			f.B.L = []api.Point{{At: 0, N: x.base}}
		})
		a := expectHeard(t, fmt.Sprint(x), f, c, api.Told{Got: 10, Now: 2000, Growth: 1}, api.OK)
		expectEqual(t, fmt.Sprint(x), a.flow.W.Cwnd, x.want)
	}
}

// P19.4, step 7: Probed is cleared by new parts only, before the timer is set.
func TestHeardProbed(t *testing.T) {
	f := flowWith(four(), func(f *api.Flow) {
		f.R = api.Rtt{Has: true, Srtt: 2000, Var: 1000, Rto: 6000}
		f.Probed = true
	})
	a := hear(t, "nothing new", f, api.Told{Got: 1000, Now: 2400})
	expectEqual(t, "nothing new", a.flow.Probed, true)
	expectEqual(t, "nothing new", a.flow.T, api.Timer{Kind: api.Resend, At: 6400})

	a = hear(t, "one new part", f, api.Told{Got: 1100, Now: 2100})
	expectEqual(t, "one new part", a.flow.Probed, false)
	expectEqual(t, "one new part", a.flow.T, api.Timer{Kind: api.Probe, At: 4400})

	f.Probed = false
	a = hear(t, "not probed", f, api.Told{Got: 1000, Now: 2400})
	expectEqual(t, "not probed", a.flow.Probed, false)
	expectEqual(t, "not probed", a.flow.T, api.Timer{Kind: api.Probe, At: 4400})

	f.Probed = true
	a = hear(t, "a new part that was lost, and sent again", flowWith(f, func(f *api.Flow) { f.L[0] = lost(tried(f.L[0], 4)) }), api.Told{Got: 1100, Now: 2400})
	expectEqual(t, "a new part that was lost", a.flow.Probed, false)
}

// P19.4, step 7: the timer is set at Now, by what is left.
func TestHeardTimer(t *testing.T) {
	f := four()
	f.T = api.Timer{Kind: api.Resend, At: 5}
	a := hear(t, "earlier than what was sent", f, api.Told{Got: 1000, Now: 50})
	expectEqual(t, "earlier than what was sent", a.flow.T, api.Timer{Kind: api.Resend, At: 1000050})
	a = hear(t, "later", f, api.Told{Got: 1000, Now: 5000})
	expectEqual(t, "later", a.flow.T, api.Timer{Kind: api.Resend, At: 1000400})
	a = hear(t, "all has come", f, api.Told{Got: 1400, Now: 5000})
	expectEqual(t, "all has come", a.flow.T, api.Timer{})
	c := confWith(func(c *api.Conf) { c.Longest = 4000 })
	a = expectHeard(t, "waiting at most 4000", f, c, api.Told{Got: 1000, Now: 5000}, api.OK)
	expectEqual(t, "waiting at most 4000", a.flow.T, api.Timer{Kind: api.Resend, At: 4400})
}

// P19.4: a later step sees what an earlier one changed.
func TestHeardOrder(t *testing.T) {
	gap := api.Told{Got: 1100, Now: 10400, Sacks: spans(api.Span{From: 1300, Upto: 1400})}
	marked := gap
	marked.Ace = 1
	a := hear(t, "cut by marks, so not by the loss", four(), marked)
	expectEqual(t, "cut by marks, so not by the loss", a.flow.W, api.Win{Cwnd: 500, Thresh: 500})
	expectEqual(t, "cut by marks, so not by the loss", a.flow.L[0].Lost, true)

	f := flowWith(four(), func(f *api.Flow) { f.M.Part = 16; f.Round = 1100 })
	a = hear(t, "cut by marks, at the end of a round", f, marked)
	expectEqual(t, "cut by marks, at the end of a round", a.flow.W, api.Win{Cwnd: 993, Thresh: 993}) // Part 16, not that of this round
	expectEqual(t, "cut by marks, at the end of a round", a.flow.Cut, false)
	expectEqual(t, "cut by marks, at the end of a round", a.flow.M, api.Marks{Packets: 1, Part: 15})

	gap.Growth = 50
	a = hear(t, "cut by a loss, at the end of a round", f, gap)
	expectEqual(t, "cut by a loss, at the end of a round", a.flow.W, api.Win{Cwnd: 500, Thresh: 500})
	expectEqual(t, "cut by a loss, at the end of a round", a.flow.Cut, false)

	// Slow has brought the window to Thresh, before it is reduced by the loss.
	f = flowWith(four(), func(f *api.Flow) { f.W = api.Win{Cwnd: 1000, Thresh: 5000} })
	a = hear(t, "grown, then lost", f, gap)
	expectEqual(t, "grown, then lost", a.flow.W, api.Win{Cwnd: 600, Thresh: 600})

	// The marks of this acknowledgement count for the round that it ends.
	f = flowWith(four(), func(f *api.Flow) { f.M = api.Marks{Came: 100, Part: 0} })
	a = hear(t, "marks in this round", f, api.Told{Got: 1400, Now: 10400, Ace: 1, Ce: 400})
	expectEqual(t, "marks in this round", a.flow.M, api.Marks{Packets: 1, Bytes: 400, Part: 51}) // 1024 * 400 / 500 / 16
	expectEqual(t, "marks in this round", a.flow.W.Cwnd, 500)
}

// P19.4: the next acknowledgement in the same round does not reduce the window again; the one behind the round does.
func TestHeardTwice(t *testing.T) {
	f := four()
	f = hear(t, "the first mark", f, api.Told{Got: 1100, Now: 10100, Ace: 1, Ce: 100}).flow
	expectEqual(t, "the first mark", f.W, api.Win{Cwnd: 500, Thresh: 500})
	f = hear(t, "the second mark", f, api.Told{Got: 1200, Now: 10200, Ace: 2, Ce: 200}).flow
	expectEqual(t, "the second mark", f.W, api.Win{Cwnd: 500, Thresh: 500})
	f = expectSend(t, "some more", f, conf, 7, 100, 10300, api.OK).flow
	f = hear(t, "the end of the round", f, api.Told{Got: 1400, Now: 10400, Ace: 2, Ce: 200}).flow
	expectEqual(t, "the end of the round", f.W, api.Win{Cwnd: 500, Thresh: 500})
	expectEqual(t, "the end of the round", f.Round, 1500)
	f = hear(t, "a mark in the next round", f, api.Told{Got: 1400, Now: 10500, Ace: 3, Ce: 300}).flow
	expectEqual(t, "a mark in the next round", f.W, api.Win{Cwnd: 493, Thresh: 493}) // Part 32: half of the bytes
}
