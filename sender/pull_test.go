package sender_test

import (
	"fmt"
	"testing"

	"fourinhand/api"
)

// pulled is what a segment is checked for.
type pulled struct {
	sub, dsn, n int // n is how many bytes it has
	fin         bool
}

// expectPulled checks the next segment that s sends, and returns the sender then.
func expectPulled(t *testing.T, why string, s api.Sender, c api.Conf, want pulled) api.Sender {
	t.Helper()
	a := expectPull(t, why, s, c, 900, api.OK)
	expectEqual(t, why, pulled{a.seg.Sub, int(a.seg.Dsn), len(a.seg.B), a.seg.Fin}, want)
	expectEqual(t, why+": bytes", a.seg.B, text(want.dsn, want.n))
	return a.sender
}

// expectNothing checks that s sends nothing, and what Waits is then.
func expectNothing(t *testing.T, why string, s api.Sender, c api.Conf, waits bool) {
	t.Helper()
	a := expectPull(t, why, s, c, 900, api.ErrNone)
	expectEqual(t, why+": Waits", a.sender.Waits, waits)
}

// P20.4: an earlier way goes first, and each of the four is used when it is the only one that is left.
func TestPullOrder(t *testing.T) {
	s := past(5000, 250, busy(lost(part(0, 30, 5010)), part(30, 40, 5040)))
	s.K.B, s.K.Shut = text(5000, 320), true
	s.Back = []api.Span{{From: 5100, Upto: 5120}}
	s = expectPulled(t, "a lost part", s, conf, pulled{0, 5010, 30, false})
	s = expectPulled(t, "Back", s, conf, pulled{0, 5100, 20, false})
	s = expectPulled(t, "new bytes", s, conf, pulled{0, 5250, 70, false})
	s = expectPulled(t, "the end", s, conf, pulled{0, 5320, 0, true})
	expectNothing(t, "nothing", s, conf, false)
	expectEqual(t, "the flow", s.F[0].L, []api.Sent{
		{Seq: 0, Len: 30, Dsn: 5010, At: 900, Tries: 2}, part(30, 40, 5040),
		{Seq: 70, Len: 20, Dsn: 5100, At: 900, Tries: 1}, {Seq: 90, Len: 70, Dsn: 5250, At: 900, Tries: 1}, {Seq: 160, Len: 1, Dsn: 5320, At: 900, Tries: 1},
	})
	expectEqual(t, "Next", s.Next, 5320)
	expectEqual(t, "Fin", s.Fin, true)
	expectEqual(t, "Back", s.Back, nil)
}

// P20.4: each way by itself, and all that it changes.
func TestPullEach(t *testing.T) {
	s := past(5000, 250, busy(lost(part(0, 30, 5010))))
	a := expectPull(t, "a lost part", s, conf, 900, api.OK)
	expectSame(t, "a lost part", a, answer{seg: api.Seg{Kind: api.Data, Dsn: 5010, At: 900, B: text(5010, 30)}, sender: with(s, func(s *api.Sender) {
		s.F[0].L[0] = api.Sent{Len: 30, Dsn: 5010, At: 900, Tries: 2}
		s.F[0].T = api.Timer{Kind: api.Resend, At: 1000900}
	})})

	s = past(5000, 250, idle())
	s.Back = []api.Span{{From: 5010, Upto: 5040}, {From: 5060, Upto: 5090}}
	a = expectPull(t, "Back", s, conf, 900, api.OK)
	expectSame(t, "Back", a, answer{seg: api.Seg{Kind: api.Data, Dsn: 5010, At: 900, B: text(5010, 30)}, sender: with(s, func(s *api.Sender) {
		s.Back = s.Back[1:]
		s.F[0].L = []api.Sent{{Len: 30, Dsn: 5010, At: 900, Tries: 1}}
		s.F[0].Next = 30
		s.F[0].T = api.Timer{Kind: api.Resend, At: 1000900}
	})})

	s = blank(5000, 30)
	a = expectPull(t, "new bytes", s, conf, 900, api.OK)
	expectSame(t, "new bytes", a, answer{seg: api.Seg{Kind: api.Data, Dsn: 5000, At: 900, B: text(5000, 30)}, sender: with(s, func(s *api.Sender) {
		s.Next = 5030
		s.F[0].L = []api.Sent{{Len: 30, Dsn: 5000, At: 900, Tries: 1}}
		s.F[0].Next = 30
		s.F[0].T = api.Timer{Kind: api.Resend, At: 1000900}
	})})

	s = past(5000, 250, idle())
	s.K.Shut = true
	a = expectPull(t, "the end", s, conf, 900, api.OK)
	expectSame(t, "the end", a, answer{seg: api.Seg{Kind: api.Data, Dsn: 5250, At: 900, Fin: true}, sender: with(s, func(s *api.Sender) {
		s.Fin = true
		s.F[0].L = []api.Sent{{Len: 1, Dsn: 5250, At: 900, Tries: 1}}
		s.F[0].Next = 1
		s.F[0].T = api.Timer{Kind: api.Resend, At: 1000900}
	})})
}

// P20.4: lost parts on several subflows.
func TestPullLost(t *testing.T) {
	spent := lost(part(0, 10, 5000))
	spent.Tries = 1000
	full := busy(lost(part(0, 10, 5000)), part(10, 1000, 5100))
	gone := busy(lost(part(0, 10, 5010)), lost(part(10, 20, 5020)))
	far := busy(part(0, 40, 5400), lost(part(40, 50, 5050)))
	for _, x := range []struct {
		why   string
		flows []api.Flow
		want  []pulled
	}{
		{"on the first one", []api.Flow{gone, idle(), idle(), idle()}, []pulled{{0, 5010, 10, false}, {0, 5020, 20, false}}},
		{"on the last one", []api.Flow{idle(), idle(), idle(), gone}, []pulled{{3, 5010, 10, false}, {3, 5020, 20, false}}},
		{"on two", []api.Flow{idle(), gone, idle(), far}, []pulled{{1, 5010, 10, false}, {1, 5020, 20, false}, {3, 5050, 50, false}}},
		{"on two, in order of the subflows", []api.Flow{far, gone, idle(), idle()}, []pulled{{0, 5050, 50, false}, {1, 5010, 10, false}, {1, 5020, 20, false}}},
		{"on one that is not Up", []api.Flow{idle(), down(gone), idle(), idle()}, nil},
		{"on one that is not Up, and one that is", []api.Flow{down(gone), far, idle(), idle()}, []pulled{{1, 5050, 50, false}}},
		{"on one without space", []api.Flow{full, far, idle(), idle()}, []pulled{{1, 5050, 50, false}}},
		{"on one without space alone", []api.Flow{full, idle(), idle(), idle()}, nil},
		{"sent 1000 times", []api.Flow{busy(spent), far, idle(), idle()}, []pulled{{1, 5050, 50, false}}},
	} {
		s := past(5000, 2000, x.flows...)
		s.K.Cap = 3000
		s.Waits = true
		for i, want := range x.want {
			s = expectPulled(t, fmt.Sprint(x.why, ", ", i), s, wideConf, want)
			expectEqual(t, x.why+": Waits is as it was", s.Waits, true)
		}
		expectNothing(t, x.why, s, wideConf, true)
	}
	s := ended(past(5000, 250, busy(lost(part(0, 5, 5245)), lost(part(5, 1, 5250)), lost(part(6, 2, 5249)))))
	s = expectPulled(t, "the last bytes", s, conf, pulled{0, 5245, 5, false})
	s = expectPulled(t, "the end", s, conf, pulled{0, 5250, 0, true})
	s = expectPulled(t, "a byte and the end, which only has a flag by itself", s, conf, pulled{0, 5249, 1, false})
	expectNothing(t, "no more", s, conf, false)
}

// P20.4: spans of Back that are shorter than Mss, as long and longer, and that begin or end at the end.
func TestPullBack(t *testing.T) {
	for _, x := range []struct {
		why  string
		back []api.Span
		want []pulled
	}{
		{"one position", []api.Span{{From: 5010, Upto: 5011}}, []pulled{{0, 5010, 1, false}}},
		{"shorter", []api.Span{{From: 5010, Upto: 5109}}, []pulled{{0, 5010, 99, false}}},
		{"as long", []api.Span{{From: 5010, Upto: 5110}}, []pulled{{0, 5010, 100, false}}},
		{"longer", []api.Span{{From: 5010, Upto: 5111}}, []pulled{{0, 5010, 100, false}, {0, 5110, 1, false}}},
		{"much longer", []api.Span{{From: 5010, Upto: 5245}}, []pulled{{0, 5010, 100, false}, {0, 5110, 100, false}, {0, 5210, 35, false}}},
		{"several", []api.Span{{From: 5010, Upto: 5020}, {From: 5021, Upto: 5130}, {From: 5140, Upto: 5141}}, []pulled{{0, 5010, 10, false}, {0, 5021, 100, false}, {0, 5121, 9, false}, {0, 5140, 1, false}}},
		{"up to the end", []api.Span{{From: 5100, Upto: 5250}}, []pulled{{0, 5100, 100, false}, {0, 5200, 50, false}}},
		{"across the end", []api.Span{{From: 5200, Upto: 5251}}, []pulled{{0, 5200, 50, false}, {0, 5250, 0, true}}},
		{"Mss before the end, and across it", []api.Span{{From: 5150, Upto: 5251}}, []pulled{{0, 5150, 100, false}, {0, 5250, 0, true}}},
		{"Mss with the end", []api.Span{{From: 5151, Upto: 5251}}, []pulled{{0, 5151, 99, false}, {0, 5250, 0, true}}},
		{"longer across the end", []api.Span{{From: 5149, Upto: 5251}}, []pulled{{0, 5149, 100, false}, {0, 5249, 1, false}, {0, 5250, 0, true}}},
		{"the last byte and the end", []api.Span{{From: 5249, Upto: 5251}}, []pulled{{0, 5249, 1, false}, {0, 5250, 0, true}}},
		{"the end", []api.Span{{From: 5250, Upto: 5251}}, []pulled{{0, 5250, 0, true}}},
	} {
		s := ended(past(5000, 250))
		s.Back, s.Edge = x.back, 0 // which is no limit of what was sent before
		for i, want := range x.want {
			s = expectPulled(t, fmt.Sprint(x.why, ", ", i), s, conf, want)
			rest := api.Span{From: want.dsn + max(1, want.n), Upto: x.back[len(x.back)-1].Upto}
			expectEqual(t, x.why+": the last position that is left", len(s.Back) > 0, rest.From < rest.Upto)
		}
		expectNothing(t, x.why, s, conf, false)
	}
}

// P20.4: new bytes are limited by Mss, the end of what there is, and Edge.
func TestPullNew(t *testing.T) {
	for _, x := range []struct {
		next, end, edge int
		n               int // or 0, if nothing is sent
	}{
		{5000, 5099, 9000, 99}, {5000, 5100, 9000, 100}, {5000, 5101, 9000, 100}, {5000, 5001, 9000, 1}, {5000, 5000, 9000, 0},
		{5000, 5600, 5099, 99}, {5000, 5600, 5100, 100}, {5000, 5600, 5101, 100}, {5000, 5600, 5001, 1}, {5000, 5600, 5000, 0}, {5000, 5600, 4999, 0}, {5000, 5600, 0, 0},
		{5000, 5050, 5040, 40}, {5000, 5040, 5050, 40}, {5000, 5040, 5040, 40}, {5300, 5350, 5345, 45}, {5300, 5300, 5300, 0}, {5300, 5600, 5300, 0}, {5300, 5600, 5250, 0},
	} {
		s := blank(5000, x.end-5000)
		s.Next, s.Edge = x.next, x.edge
		why := fmt.Sprintf("%+v", x)
		if x.n == 0 {
			expectNothing(t, why, s, conf, false)
			continue
		}
		u := expectPulled(t, why, s, conf, pulled{0, x.next, x.n, false})
		expectEqual(t, why+": Next", u.Next, x.next+x.n)
		expectEqual(t, why+": Edge", u.Edge, x.edge)
	}
	c := confWith(func(c *api.Conf) { c.Mss, c.Most = 1, 1000 })
	expectPulled(t, "Mss 1", blank(5000, 600), c, pulled{0, 5000, 1, false})
	c = confWith(func(c *api.Conf) { c.Mss, c.Keep = 1460, 3000 })
	s := past(5000, 3000)
	s.K.Cap, s.Next, s.Edge = 3000, 5000, last
	s.F[0].W = api.Win{Cwnd: 1460, Thresh: 1460}
	for i := 1; i < 4; i++ {
		s.F[i].W = s.F[0].W
	}
	expectPulled(t, "Mss 1460", s, c, pulled{0, 5000, 1460, false})
}

// P20.4: the end is sent once, when nothing is written any more and all bytes were sent, whatever Edge is.
func TestPullEnd(t *testing.T) {
	for _, n := range []int{0, 1, 250} {
		for _, edge := range []int{0, 5000, 5000 + n, 5000 + n + 1, last} {
			for _, x := range []struct {
				left      int // how many bytes were not sent yet
				shut, fin bool
			}{{0, true, false}, {0, true, true}, {0, false, false}, {1, true, false}, {1, false, false}} {
				if x.left > n {
					continue
				}
				why := fmt.Sprintf("%d bytes, Edge %d, %+v", n, edge, x)
				s := past(5000, n)
				s.Next -= x.left
				s.Edge, s.K.Shut, s.Fin = edge, x.shut, x.fin
				switch {
				case x.left > 0 && s.Next < edge:
					s = expectPulled(t, why, s, conf, pulled{0, s.Next, 1, false})
					expectEqual(t, why, s.Fin, false)
				case x.left == 0 && x.shut && !x.fin:
					s = expectPulled(t, why, s, conf, pulled{0, 5000 + n, 0, true})
					expectEqual(t, why, s.Fin, true)
					expectEqual(t, why, s.Next, 5000+n)
					expectNothing(t, why+", twice", s, conf, false)
				default:
					expectNothing(t, why, s, conf, false)
				}
			}
		}
	}
}

// anew is a sender that has sent 400 bytes from 5000 on, and n bytes not.
func anew(n int) api.Sender {
	s := past(5000, 400)
	s.K.B, s.Edge = text(5000, 400+n), 9000
	return s
}

// backed is a sender that has sent 400 bytes from 5000 on, and the end, and has the spans between these ends in Back.
func backed(ends ...int) api.Sender {
	s := ended(past(5000, 400))
	for i := 0; i < len(ends); i += 2 {
		s.Back = append(s.Back, api.Span{From: ends[i], Upto: ends[i+1]})
	}
	return s
}

// choosy returns s with a first subflow that is fast and has no room, and a last one that is slow and has: the first one is waited for with less bytes than its window has, or, with Waits, with less than twice as many.
func choosy(s api.Sender, window int) api.Sender {
	s.F[0] = timed(busy(part(0, window, s.K.Base)), 100)
	s.F[0].W = api.Win{Cwnd: window, Thresh: window}
	s.F[3] = timed(s.F[3], 200)
	s.F[3].Up = true
	return s
}

// P20.4: for each way ecf.Pick is asked with its number of bytes, and with Waits, which becomes what it returns.
func TestPullBytes(t *testing.T) {
	for _, x := range []struct {
		why    string
		s      api.Sender
		window int
		waits  bool
		want   pulled // with no dsn, if nothing is sent
	}{
		{"Back of 99", backed(5000, 5099), 100, false, pulled{}},
		{"Back of 100", backed(5000, 5100), 100, false, pulled{3, 5000, 100, false}},
		{"Back of 100, again", backed(5000, 5100), 100, true, pulled{}},
		{"Back of 101", backed(5000, 5101), 100, false, pulled{3, 5000, 100, false}},
		{"Back of 250", backed(5000, 5250), 101, false, pulled{}},
		{"Back of 250, again", backed(5000, 5250), 100, true, pulled{}},
		{"Back across the end", backed(5301, 5401), 100, false, pulled{}},
		{"Back up to the end", backed(5300, 5400), 100, false, pulled{3, 5300, 100, false}},
		{"Back of two spans", backed(5000, 5099, 5100, 5250), 100, false, pulled{}},
		{"99 new ones", anew(99), 100, false, pulled{}},
		{"99 new ones, again", anew(99), 100, true, pulled{}},
		{"100 new ones", anew(100), 100, false, pulled{3, 5400, 100, false}},
		{"100 new ones, again", anew(100), 100, true, pulled{}},
		{"199 new ones, again", anew(199), 100, true, pulled{}},
		{"200 new ones, again", anew(200), 100, true, pulled{3, 5400, 100, false}},
		{"399 new ones", anew(399), 400, false, pulled{}},
		{"400 new ones", anew(400), 400, false, pulled{3, 5400, 100, false}},
		{"400 new ones, with an Edge", with(anew(400), func(s *api.Sender) { s.Edge = 5410 }), 400, false, pulled{3, 5400, 10, false}},
		{"400 new ones, of which one was sent", with(anew(400), func(s *api.Sender) { s.Next = 5401 }), 400, false, pulled{}},
		{"401 new ones, of which one was sent", with(anew(401), func(s *api.Sender) { s.Next = 5401 }), 400, false, pulled{3, 5401, 100, false}},
		{"Back of 99, and 100 new ones that it makes wait as well", with(anew(100), func(s *api.Sender) { s.Back = []api.Span{{From: 5000, Upto: 5099}} }), 100, false, pulled{}},
		{"Back of 99, and 199 new ones", with(anew(199), func(s *api.Sender) { s.Back = []api.Span{{From: 5000, Upto: 5099}} }), 100, false, pulled{}},
		{"Back of 99, and 200 new ones", with(anew(200), func(s *api.Sender) { s.Back = []api.Span{{From: 5000, Upto: 5099}} }), 100, false, pulled{3, 5400, 100, false}},
	} {
		s := choosy(x.s, x.window)
		s.Waits = x.waits
		if x.want.dsn == 0 {
			expectNothing(t, x.why, s, conf, true)
			continue
		}
		u := expectPulled(t, x.why, s, conf, x.want)
		expectEqual(t, x.why+": Waits", u.Waits, false)
	}
}

// P20.4: the end is one byte for ecf.Pick.
func TestPullBytesEnd(t *testing.T) {
	c := confWith(func(c *api.Conf) { c.Mss = 1 })
	s := anew(0)
	s.K.Shut = true
	for window, sends := range map[int]bool{1: true, 2: false} {
		s := choosy(s, window)
		if sends {
			u := expectPulled(t, "the end", s, c, pulled{3, 5400, 0, true})
			expectEqual(t, "the end: Waits", u.Waits, false)
		} else {
			expectNothing(t, "the end, which waits", s, c, true)
		}
		s.Waits = true
		expectNothing(t, "the end, again", s, c, true)
	}
}

// P20.4: what is known of a subflow decides whether it is picked.
func TestPullChoice(t *testing.T) {
	slow := timed(idle(), 300)
	fast := timed(idle(), 100)
	fullest := timed(busy(part(0, 901, 5000)), 100)
	fuller := timed(busy(part(0, 900, 5000)), 100)
	vain := timed(busy(lost(part(0, 500, 5000)), part(500, 401, 5000), came(part(901, 500, 5000))), 100)
	vain.L[0].Tries = 1000
	endless := timed(idle(), 1<<40+1)
	jumpy := timed(idle(), 50)
	jumpy.R.Var = 1<<40 + 1
	small := timed(busy(part(0, 1, 5000)), 10)
	small.W.Cwnd = 100
	for _, x := range []struct {
		why   string
		flows []api.Flow
		want  int // the subflow, or -1
	}{
		{"the only one", []api.Flow{idle(), down(fast), down(fast), down(fast)}, 0},
		{"the only one, which is the last", []api.Flow{down(fast), down(fast), down(fast), slow}, 3},
		{"the faster one", []api.Flow{slow, fast, down(fast), down(fast)}, 1},
		{"the first one of the same", []api.Flow{slow, fast, fast, fast}, 1},
		{"one of which no time is known", []api.Flow{slow, fast, idle(), fast}, 2},
		{"one with just as much room", []api.Flow{slow, down(fast), fuller, slow}, 2},
		{"one that is too full, so that a slow one is too", []api.Flow{fullest, down(slow), down(slow), down(slow)}, -1},
		{"what is lost is not in flight, nor what has come", []api.Flow{down(slow), vain, down(slow), slow}, 1},
		{"one that takes too long to be known", []api.Flow{down(slow), endless, down(slow), slow}, 3},
		{"one that takes too long alone", []api.Flow{endless, down(slow), down(slow), down(slow)}, -1},
		{"one that varies too much", []api.Flow{jumpy, down(slow), slow, down(slow)}, 2},
		{"one that is small, with one byte in flight", []api.Flow{small, down(slow), down(slow), down(slow)}, -1},
		{"none is Up", []api.Flow{down(fast), down(slow), down(fast), down(idle())}, -1},
	} {
		s := past(5000, 999, x.flows...)
		s.K.B, s.Waits = text(5000, 1000), true
		if x.want < 0 {
			expectNothing(t, x.why, s, conf, false)
			continue
		}
		u := expectPulled(t, x.why, s, conf, pulled{x.want, 5999, 1, false})
		expectEqual(t, x.why+": Waits", u.Waits, false)
	}
}

// P20.4: the times of both the fast and the slow subflow decide whether it is worth to wait, and how much they vary.
func TestPullTimes(t *testing.T) {
	for _, x := range []struct {
		why    string
		change func(fast, slow *api.Rtt)
		waits  bool
	}{
		{"100 and 200", func(fast, slow *api.Rtt) {}, false},
		{"100 and 201", func(fast, slow *api.Rtt) { slow.Srtt = 201 }, true},
		{"99 and 200", func(fast, slow *api.Rtt) { fast.Srtt = 99 }, true},
		{"the fast one varies", func(fast, slow *api.Rtt) { fast.Var = 1 }, true},
		{"the slow one varies", func(fast, slow *api.Rtt) { slow.Var = 1 }, true},
		{"the slow one varies too much", func(fast, slow *api.Rtt) { slow.Var = 201 }, false},
		{"Rto is not asked for", func(fast, slow *api.Rtt) { fast.Rto, slow.Rto = 1, 5000 }, false},
	} {
		s := choosy(anew(100), 100)
		s.F[3].W.Cwnd = 100
		x.change(&s.F[0].R, &s.F[3].R)
		if x.waits {
			expectNothing(t, x.why, s, conf, true)
		} else {
			expectPulled(t, x.why, s, conf, pulled{3, 5400, 100, false})
		}
	}
}

// P20.4: Waits becomes what ecf.Pick returns last, and remains as it is where that is not called.
func TestPullWaits(t *testing.T) {
	for _, waits := range []bool{false, true} {
		s := past(5000, 400)
		s.Waits = waits
		expectNothing(t, "nothing to be sent", s, conf, waits)
		s.K.B, s.Edge = text(5000, 500), 5400
		expectNothing(t, "nothing that may be sent", s, conf, waits)
		s.F[0] = busy(lost(part(0, 10, 5000)))
		u := expectPulled(t, "a lost part", s, conf, pulled{0, 5000, 10, false})
		expectEqual(t, "a lost part: Waits", u.Waits, waits)
		s.F[0] = busy(part(0, 400, 5000), part(400, 400, 5000), part(800, 200, 5000))
		s.Edge = 5500
		expectNothing(t, "no room at all", s, conf, false)
		s.F[0].Up = false
		expectNothing(t, "no subflow", s, conf, false)
	}
}

// P20.4: where flow.Send returns an error nothing is sent in this way, and the ones behind it are tried.
func TestPullErrors(t *testing.T) {
	worn := func(next int) api.Flow { f := idle(); f.Next = next; return f }
	s := anew(100)
	s.Waits = true
	s.F[0] = worn(last - 99)
	expectNothing(t, "new bytes beyond the positions of a subflow", s, conf, false)
	s.F[0] = worn(last - 100)
	expectPulled(t, "new bytes up to the last one", s, conf, pulled{0, 5400, 100, false})

	s.F[0] = worn(last - 50)
	s.Back = []api.Span{{From: 5000, Upto: 5100}}
	expectNothing(t, "both", s, conf, false)
	s.K.B = s.K.B[:450]
	u := expectPulled(t, "new bytes, as Back is too long", s, conf, pulled{0, 5400, 50, false})
	expectEqual(t, "Back", u.Back, s.Back)
	s.K.B, s.K.Shut = s.K.B[:400], true
	u = expectPulled(t, "the end, as Back is too long", s, conf, pulled{0, 5400, 0, true})
	expectEqual(t, "Back", u.Back, s.Back)
	s.F[0] = worn(last)
	expectNothing(t, "not even the end", s, conf, false)

	s = anew(100)
	s.Waits = true
	s.F[0] = busy(alike(500)...)
	expectNothing(t, "500 parts", s, conf, false)
	s.F[1] = timed(idle(), 100)
	expectNothing(t, "500 parts on the one that is picked", s, conf, false)
	s.F[0] = timed(s.F[0], 101)
	expectPulled(t, "500 parts on another one", s, conf, pulled{1, 5400, 100, false})
	s.F[0], s.F[1] = busy(alike(499)...), down(idle())
	expectPulled(t, "499 parts", s, conf, pulled{0, 5400, 100, false})
}

// P20.4: positions up to 2^60, and beyond.
func TestPullFar(t *testing.T) {
	s := blank(last-150, 300)
	s.Edge = last
	a := expectPull(t, "near to 2^60", s, conf, 900, api.OK)
	expectEqual(t, "near to 2^60", len(a.seg.B), 100)
	a = expectPull(t, "up to 2^60", a.sender, conf, 900, api.OK)
	expectEqual(t, "up to 2^60", len(a.seg.B), 50)
	expectPull(t, "beyond 2^60", a.sender, conf, 900, api.ErrNone)
	for base, e := range map[int]api.Errno{last - 1: api.OK, last: api.OK, last + 1: api.ErrNone, 1 << 61: api.ErrNone} {
		s := blank(base, 0)
		s.Edge, s.K.Shut = last, true
		expectPull(t, fmt.Sprint("the end at ", base), s, conf, 900, e)
	}
	s = past(last-10, 300)
	s.Edge, s.Waits, s.Back = last, true, []api.Span{{From: last + 1, Upto: last + 5}}
	expectNothing(t, "Back beyond 2^60", s, conf, false)
	s.Back[0].From = last
	expectPull(t, "Back from 2^60 on", s, conf, 900, api.OK)
}

// P20.4: each field of the segment of each way, with positions and times beyond 2^32.
func TestPullSegment(t *testing.T) {
	const turn = 1 << 32
	base, seq, now := 5*turn+1000, 3*turn+2000, 7*turn+3000
	s := past(base, 400)
	s.F[0].Up = false
	s.F[2] = busy(came(part(seq-100, 100, base-100)), lost(part(seq, 30, base+10)))
	s.F[2].Up = true
	s.K.B, s.K.Shut, s.Edge = text(base, 450), true, base+500
	s.Back = []api.Span{{From: base + 200, Upto: base + 220}}
	for i, want := range []api.Seg{
		{Seq: 2000, Dsn: 1010, B: text(base+10, 30)},
		{Seq: 2030, Dsn: 1200, B: text(base+200, 20)},
		{Seq: 2050, Dsn: 1400, B: text(base+400, 50)},
		{Seq: 2100, Dsn: 1450, Fin: true},
	} {
		want.Kind, want.Sub, want.At = api.Data, 2, 3000
		a := expectPull(t, fmt.Sprint("way ", i), s, conf, now, api.OK)
		expectEqual(t, fmt.Sprint("way ", i), a.seg, want)
		s = a.sender
	}
	f := s.F[2]
	expectEqual(t, "the parts", f.L[1:], []api.Sent{
		{Seq: seq, Len: 30, Dsn: base + 10, At: now, Tries: 2}, {Seq: seq + 30, Len: 20, Dsn: base + 200, At: now, Tries: 1},
		{Seq: seq + 50, Len: 50, Dsn: base + 400, At: now, Tries: 1}, {Seq: seq + 100, Len: 1, Dsn: base + 450, At: now, Tries: 1},
	})
	for _, x := range []struct{ seq, dsn, at int }{{turn - 1, turn - 2, turn - 3}, {turn, turn, turn}, {turn + 1, 2*turn + 2, 9*turn - 1}} {
		s := blank(x.dsn, 10)
		s.F[0].Next = x.seq
		a := expectPull(t, fmt.Sprint(x), s, conf, x.at, api.OK)
		expectEqual(t, fmt.Sprint(x), a.seg, api.Seg{Kind: api.Data, Seq: uint32(x.seq % turn), Dsn: uint32(x.dsn % turn), At: uint32(x.at % turn), B: text(x.dsn, 10)})
	}
}

// P20.4: sending on one subflow changes no other one, and nothing beside what is sent.
func TestPullOthers(t *testing.T) {
	s := with(middle(), func(s *api.Sender) { s.F[0].L[1].Lost = false })
	a := expectPull(t, "Back", s, conf, 900, api.OK)
	u := a.sender
	expectEqual(t, "the subflow", a.seg.Sub, 0)
	u.F[0], u.Back = s.F[0], s.Back
	expectEqual(t, "all else", u, s)
	a = expectPull(t, "a lost part", middle(), conf, 900, api.OK)
	u = a.sender
	expectEqual(t, "the part", a.seg.Dsn, 5100)
	u.F[0] = middle().F[0]
	expectEqual(t, "all else", u, middle())
}
