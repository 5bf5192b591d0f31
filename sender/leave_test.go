package sender_test

import (
	"fmt"
	"math"
	"testing"

	"fourinhand/api"
)

// P20.3: subflows that are not there, Up, were Up, and neither; the order of the errors.
func TestJoin(t *testing.T) {
	s := middle() // 0 and 1 are Up, 2 was not used yet, 3 was
	for i, e := range map[int]api.Errno{
		-1: api.ErrNone, 4: api.ErrNone, 5: api.ErrNone, math.MinInt: api.ErrNone, math.MaxInt: api.ErrNone,
		0: api.ErrFull, 1: api.ErrFull, 2: api.OK, 3: api.ErrDone,
	} {
		a := expectJoin(t, fmt.Sprint("join ", i), s, conf, i, e)
		if e == api.OK {
			expectSame(t, fmt.Sprint("join ", i), a, answer{sender: with(s, func(s *api.Sender) { s.F[i].Up = true })})
		}
	}
	for i := range 4 {
		s := with(blank(0, 0), func(s *api.Sender) { s.F[0].Up = false })
		why := fmt.Sprint("join ", i)
		a := expectJoin(t, why, s, conf, i, api.OK)
		expectSame(t, why, a, answer{sender: with(s, func(s *api.Sender) { s.F[i].Up = true })})
		expectJoin(t, why+" twice", a.sender, conf, i, api.ErrFull)
		for _, next := range []int{1, 2, 1 << 32, last} {
			expectJoin(t, why+" when it was Up", with(s, func(s *api.Sender) { s.F[i].Next = next }), conf, i, api.ErrDone)
			expectJoin(t, why+" when it is Up and has sent", with(a.sender, func(s *api.Sender) { s.F[i].Next = next }), conf, i, api.ErrFull)
		}
		a = expectLeave(t, why+", and leave", a.sender, conf, i, api.OK)
		expectSame(t, why+", and leave", a, answer{sender: s})
		expectJoin(t, why+", as nothing was sent", a.sender, conf, i, api.OK)
	}
}

// P20.3: a subflow that joins keeps what is known of it.
func TestJoinKnown(t *testing.T) {
	s := with(middle(), func(s *api.Sender) {
		s.F[2] = timed(s.F[2], 7000)
		s.F[2].W = api.Win{Cwnd: 300, Thresh: 700}
		s.F[2].Round, s.F[2].Cut, s.F[2].Probed = 8, true, true
		s.F[2].T = api.Timer{Kind: api.Probe, At: 9}
	})
	a := expectJoin(t, "join", s, conf, 2, api.OK)
	expectSame(t, "join", a, answer{sender: with(s, func(s *api.Sender) { s.F[2].Up = true })})
}

// P20.3: subflows that are not there, or not Up.
func TestLeaveNone(t *testing.T) {
	for _, i := range []int{-1, 4, 5, math.MinInt, math.MaxInt, 2, 3} {
		expectLeave(t, fmt.Sprint("leave ", i), middle(), conf, i, api.ErrNone)
	}
	s := with(middle(), func(s *api.Sender) { s.F[0].Up, s.F[1].Up = false, false })
	for i := range 4 {
		expectLeave(t, fmt.Sprint("leave ", i, ", when none is Up"), s, conf, i, api.ErrNone)
	}
}

// P20.3: all that changes when a subflow leaves.
func TestLeave(t *testing.T) {
	s := middle()
	a := expectLeave(t, "leave 0", s, conf, 0, api.OK)
	expectSame(t, "leave 0", a, answer{sender: with(s, func(s *api.Sender) {
		s.F[0].Up, s.F[0].L, s.F[0].T = false, nil, api.Timer{}
		s.Back = []api.Span{{From: 5040, Upto: 5150}, {From: 5250, Upto: 5350}} // 5150 to 5250 has come
		s.K.Base, s.K.B = 5040, text(5040, 560)
	})})
	a = expectLeave(t, "leave 1", s, conf, 1, api.OK)
	expectSame(t, "leave 1", a, answer{sender: with(s, func(s *api.Sender) {
		s.F[1].Up, s.F[1].L, s.F[1].T = false, nil, api.Timer{}
		s.Back = []api.Span{{From: 5060, Upto: 5070}, {From: 5300, Upto: 5340}, {From: 5350, Upto: 5450}}
	})})
	a = expectLeave(t, "leave both", a.sender, conf, 0, api.OK) // the last one may leave, too
	expectSame(t, "leave both", a, answer{sender: with(s, func(s *api.Sender) {
		for i := range 2 {
			s.F[i].Up, s.F[i].L, s.F[i].T = false, nil, api.Timer{}
		}
		s.Back = []api.Span{{From: 5040, Upto: 5150}, {From: 5250, Upto: 5450}}
		s.K.Base, s.K.B = 5040, text(5040, 560)
	})})
	a = expectLeave(t, "leave without parts", with(s, func(s *api.Sender) { s.F[3].Up = true }), conf, 3, api.OK)
	expectSame(t, "leave without parts", a, answer{sender: s})
}

// P20.3: parts before Got, across it and behind it, which have come or not, on each subflow.
func TestLeaveParts(t *testing.T) {
	for _, x := range []struct {
		why  string
		l    []api.Sent
		got  int
		back []api.Span
	}{
		{"behind Got", []api.Sent{part(0, 100, 5100)}, 5040, []api.Span{{From: 5100, Upto: 5200}}},
		{"one behind Got", []api.Sent{part(0, 100, 5041)}, 5040, []api.Span{{From: 5041, Upto: 5141}}},
		{"at Got", []api.Sent{part(0, 100, 5040)}, 5040, []api.Span{{From: 5040, Upto: 5140}}},
		{"across Got", []api.Sent{part(0, 100, 5000)}, 5040, []api.Span{{From: 5040, Upto: 5100}}},
		{"one behind Got at its end", []api.Sent{part(0, 41, 5000)}, 5040, []api.Span{{From: 5040, Upto: 5041}}},
		{"up to Got", []api.Sent{part(0, 40, 5000)}, 5040, nil},
		{"before Got", []api.Sent{part(0, 10, 5000)}, 5040, nil},
		{"all before Got", []api.Sent{part(0, 100, 5000), part(100, 100, 5100)}, 5600, nil},
		{"come behind Got", []api.Sent{came(part(0, 100, 5100))}, 5040, nil},
		{"come across Got", []api.Sent{came(part(0, 100, 5000))}, 5040, nil},
		{"come before Base", []api.Sent{came(part(0, 100, 10))}, 5040, nil},
		{"lost", []api.Sent{lost(part(0, 100, 5000))}, 5040, []api.Span{{From: 5040, Upto: 5100}}},
		{"touching", []api.Sent{part(0, 100, 5100), part(100, 100, 5200)}, 5040, []api.Span{{From: 5100, Upto: 5300}}},
		{"apart", []api.Sent{part(0, 100, 5100), part(100, 100, 5201)}, 5040, []api.Span{{From: 5100, Upto: 5200}, {From: 5201, Upto: 5301}}},
		{"in another order", []api.Sent{part(0, 100, 5300), part(100, 100, 5050), part(200, 100, 5150)}, 5040, []api.Span{{From: 5050, Upto: 5250}, {From: 5300, Upto: 5400}}},
		{"twice the same", []api.Sent{part(0, 100, 5100), part(100, 100, 5150)}, 5040, []api.Span{{From: 5100, Upto: 5250}}},
		{"come and not", []api.Sent{part(0, 10, 5100), came(part(10, 10, 5110)), lost(part(20, 10, 5120)), came(part(30, 10, 5130)), part(40, 10, 5140)}, 5115,
			[]api.Span{{From: 5120, Upto: 5130}, {From: 5140, Upto: 5150}}},
		{"the end", []api.Sent{part(0, 100, 5500), part(100, 1, 5600)}, 5040, []api.Span{{From: 5500, Upto: 5601}}},
		{"the end alone", []api.Sent{part(0, 1, 5600)}, 5600, []api.Span{{From: 5600, Upto: 5601}}},
		{"the end that is acknowledged", []api.Sent{part(0, 1, 5600)}, 5601, nil},
	} {
		for i := range 4 {
			f := timed(busy(x.l...), 3000)
			f.T = api.Timer{Kind: api.Resend, At: 77}
			f.Probed, f.Cut, f.Delays = true, true, []int{1, 2}
			s := ended(past(5000, 600, down(idle())))
			s.F[i] = f
			s.Got = x.got
			why := fmt.Sprintf("%s, on subflow %d", x.why, i)
			a := expectLeave(t, why, s, conf, i, api.OK)
			expectEqual(t, why, a.sender.Back, x.back)
			f.Up, f.L, f.T = false, nil, api.Timer{}
			s.F[i] = f
			expectEqual(t, why+": the flows", a.sender.F, s.F)
		}
	}
}

// P20.3: what is in Back already.
func TestLeaveBack(t *testing.T) {
	for _, x := range []struct{ had, want []api.Span }{
		{[]api.Span{{From: 5010, Upto: 5020}}, []api.Span{{From: 5010, Upto: 5020}, {From: 5100, Upto: 5200}}},
		{[]api.Span{{From: 5010, Upto: 5100}}, []api.Span{{From: 5010, Upto: 5200}}},
		{[]api.Span{{From: 5120, Upto: 5130}}, []api.Span{{From: 5100, Upto: 5200}}},
		{[]api.Span{{From: 5010, Upto: 5599}}, []api.Span{{From: 5010, Upto: 5599}}},
		{[]api.Span{{From: 5010, Upto: 5099}, {From: 5201, Upto: 5210}}, []api.Span{{From: 5010, Upto: 5099}, {From: 5100, Upto: 5200}, {From: 5201, Upto: 5210}}},
		{[]api.Span{{From: 5010, Upto: 5101}, {From: 5199, Upto: 5210}}, []api.Span{{From: 5010, Upto: 5210}}},
	} {
		s := past(5000, 600, busy(part(0, 100, 5100)))
		s.Back = x.had
		a := expectLeave(t, fmt.Sprint(x.had), s, conf, 0, api.OK)
		expectEqual(t, fmt.Sprint(x.had), a.sender.Back, x.want)
	}
}

// P20.3: Back with 1000 spans (at 5000, 5002 and so on, up to 6999), and one below.
func TestLeaveFull(t *testing.T) {
	for _, x := range []struct {
		why   string
		spans int
		l     []api.Sent
		e     api.Errno
	}{
		{"one more than 1000", 1000, []api.Sent{part(0, 1, 7500)}, api.ErrFull},
		{"1000", 999, []api.Sent{part(0, 1, 7500)}, api.OK},
		{"two more than 999", 999, []api.Sent{part(0, 1, 7500), part(1, 1, 7502)}, api.ErrFull},
		{"one that touches", 1000, []api.Sent{part(0, 1, 6999)}, api.OK},
		{"one within others", 1000, []api.Sent{part(0, 100, 6000)}, api.OK},
		{"one that has come", 1000, []api.Sent{came(part(0, 1, 7500))}, api.OK},
		{"no parts that count", 1000, []api.Sent{part(0, 1, 5000)}, api.OK},
		{"first one that makes space", 1000, []api.Sent{part(0, 3, 5000), part(3, 1, 7500)}, api.OK},
		{"space only behind the one that needs it", 1000, []api.Sent{part(0, 1, 7500), part(1, 3, 5000)}, api.ErrFull},
	} {
		s := wide(x.spans)
		s.F[0] = busy(x.l...)
		s.F[1] = busy(part(0, 10, 7000))
		expectLeave(t, x.why, s, wideConf, 0, x.e)
	}
}

// P20.3: what of the bytes is released, by each limit.
func TestLeaveReleases(t *testing.T) {
	for _, x := range []struct {
		why  string
		s    api.Sender
		want int // the Base
	}{
		{"Got", past(5000, 600, busy(came(part(0, 100, 5000))), idle()), 5200},
		{"its own parts are no limit", past(5000, 600, busy(part(0, 100, 5000)), idle()), 5200},
		{"a part of another subflow", past(5000, 600, busy(part(0, 100, 5000)), busy(part(0, 100, 5100))), 5100},
		{"a lost part of another subflow", past(5000, 600, busy(part(0, 100, 5000)), busy(part(0, 10, 5300), lost(part(10, 100, 5100)))), 5100},
		{"a part of a subflow that is not Up", past(5000, 600, busy(part(0, 100, 5000)), idle(), idle(), down(busy(part(0, 100, 5100)))), 5100},
		{"parts of others that have come", past(5000, 600, busy(part(0, 100, 5000)), busy(came(part(0, 100, 5100)))), 5200},
		{"the beginning of Back", with(past(5000, 600, busy(part(0, 100, 5000))), func(s *api.Sender) { s.Back = []api.Span{{From: 5070, Upto: 5071}} }), 5070},
		{"what it adds to Back", past(5000, 600, busy(part(0, 100, 5150))), 5200},
		{"nothing", past(5000, 600, busy(part(0, 100, 5150)), busy(part(0, 100, 5000))), 5000},
	} {
		x.s.Got = 5200
		a := expectLeave(t, x.why, x.s, conf, 0, api.OK)
		expectEqual(t, x.why, a.sender.K, api.Keep{Base: x.want, B: text(x.want, 5600-x.want), Cap: 1000})
	}
	s := ended(past(5000, 600, busy(part(0, 100, 5000))))
	s.Got = 5601
	a := expectLeave(t, "up to the end", s, conf, 0, api.OK)
	expectEqual(t, "up to the end", a.sender.K, api.Keep{Base: 5600, Cap: 1000, Shut: true})
}
