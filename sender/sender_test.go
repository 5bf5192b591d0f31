package sender_test

import (
	"fmt"
	"math"
	"testing"

	"fourinhand/api"
	"fourinhand/keep"
	"fourinhand/sender"
)

// last is the last time, and the greatest Edge.
const last = 1 << 60

// conf is a valid configuration.
var conf = api.Conf{Mss: 100, Most: 100000, Least: 1000, Longest: 1000000, Span: 1000000, Total: 8, Keep: 1000, Weave: 1000}

// confWith returns conf, changed.
func confWith(change func(c *api.Conf)) api.Conf {
	c := conf
	change(&c)
	return c
}

// with returns s, changed, with lists of its own.
func with(s api.Sender, change func(s *api.Sender)) api.Sender {
	s = owned(s)
	change(&s)
	return s
}

// text returns the n bytes from a position on, each of which depends on its position.
func text(from, n int) []byte {
	b := make([]byte, n)
	for i := range b {
		b[i] = byte((from+i)*7 + (from+i)/256)
	}
	return b
}

// part returns a part that was sent once.
func part(seq, n, dsn int) api.Sent { return api.Sent{Seq: seq, Len: n, Dsn: dsn, At: 50, Tries: 1} }

// came and lost return a part that has come, and one that is lost.
func came(x api.Sent) api.Sent { x.Came = true; return x }
func lost(x api.Sent) api.Sent { x.Lost = true; return x }

// parts returns n parts of one byte, from a position of the stream on.
func parts(n, dsn int) []api.Sent {
	var l []api.Sent
	for i := range n {
		l = append(l, part(i, 1, dsn+i))
	}
	return l
}

// alike returns n parts of one byte that have come, which is at one position of the stream.
func alike(n int) []api.Sent {
	l := parts(n, 0)
	for i := range l {
		l[i].Came, l[i].Dsn = true, 5000
	}
	return l
}

// idle is a valid flow that has no parts.
func idle() api.Flow {
	return api.Flow{Up: true, B: api.Least{Span: 1000000}, W: api.Win{Cwnd: 1000, Thresh: 1000}}
}

// busy is a valid flow with these parts, in a round that ends behind them.
func busy(l ...api.Sent) api.Flow {
	f := idle()
	f.L = l
	f.Next = l[len(l)-1].Seq + l[len(l)-1].Len
	f.Round = f.Next
	return f
}

// down returns f when it is not Up.
func down(f api.Flow) api.Flow { f.Up = false; return f }

// timed returns f as answers take that long.
func timed(f api.Flow, srtt int) api.Flow {
	f.R = api.Rtt{Has: true, Srtt: srtt, Rto: 2 * srtt}
	return f
}

// blank is a valid sender that keeps n bytes from base on, of which none was sent, with one subflow.
func blank(base, n int) api.Sender {
	s := api.Sender{K: api.Keep{Base: base, B: text(base, n), Cap: 1000}, Next: base, Got: base, Edge: base + 1000}
	for i := range s.F {
		s.F[i] = idle()
		s.F[i].Up = i == 0
	}
	return s
}

// past is a valid sender that keeps n bytes from base on, all of which were sent, with these flows.
func past(base, n int, flows ...api.Flow) api.Sender {
	s := blank(base, n)
	s.Next += n
	for i, f := range flows {
		s.F[i] = f
	}
	return s
}

// ended returns a sender of which the end was sent, too.
func ended(s api.Sender) api.Sender {
	s.K.Shut, s.Fin, s.Next = true, true, keep.End(s.K)
	return s
}

// middle is a valid sender in which most lists have elements.
func middle() api.Sender {
	s := blank(5000, 600)
	s.Next, s.Got, s.Edge = 5450, 5040, 5500
	s.F[0] = busy(part(1000, 100, 5000), lost(part(1100, 50, 5100)), came(part(1150, 100, 5150)), part(1250, 100, 5250))
	s.F[0].R = api.Rtt{Has: true, Srtt: 10000, Var: 2000, Rto: 18000}
	s.F[0].B.L = []api.Point{{At: 300, N: 8000}, {At: 400, N: 9000}}
	s.F[0].M = api.Marks{Packets: 5, Bytes: 500, Came: 300, Marked: 100, Part: 200}
	s.F[0].D = api.Rate{Total: 900, Last: 650, L: []int{5000, 7000}}
	s.F[0].K = api.Rack{At: 40, End: 1000, Took: 9000, Far: 1000, Quarters: 2}
	s.F[0].T = api.Timer{Kind: api.Probe, At: 20800}
	s.F[0].Delays = []int{10, 20, 30, 40}
	s.F[1] = busy(part(0, 100, 5350))
	s.F[1].R = api.Rtt{Has: true, Srtt: 30000, Var: 1000, Rto: 34000}
	s.F[1].T = api.Timer{Kind: api.Resend, At: 34050}
	s.F[1].Delays = []int{15, 30, 45, 60}
	s.F[2].Delays = []int{4, 3, 2, 1}
	s.F[3].Next, s.F[3].D.L = 300, []int{60, 70}
	s.Back = []api.Span{{From: 5060, Upto: 5070}, {From: 5300, Upto: 5340}}
	return s
}

// outside returns numbers that are not in the range from low to high.
func outside(low, high int) []int {
	return []int{low - 1, low - 2, math.MinInt, high + 1, high + 2, 1 << 62, math.MaxInt}
}

// ack is the acknowledgement of what middle has sent.
var ack = api.Seg{Kind: api.Ack, Ecn: true, Got: 1100, Dgot: 5050, Win: 500, Ace: 5, Ce: 500, Sacks: []api.Pair{{From: 1150, Upto: 1250}}}

// invalidConfs returns configurations that are not valid, each for one reason alone.
func invalidConfs() map[string]api.Conf {
	return map[string]api.Conf{
		"Mss 0":         confWith(func(c *api.Conf) { c.Mss = 0 }),
		"Mss 1461":      confWith(func(c *api.Conf) { c.Mss = 1461 }),
		"Most 99":       confWith(func(c *api.Conf) { c.Most = 99 }),
		"Most 2^30 + 1": confWith(func(c *api.Conf) { c.Most = 1<<30 + 1 }),
		"Least 0":       confWith(func(c *api.Conf) { c.Least = 0 }),
		"Longest 999":   confWith(func(c *api.Conf) { c.Longest = 999 }),
		"Span 0":        confWith(func(c *api.Conf) { c.Span = 0 }),
		"Total 0":       confWith(func(c *api.Conf) { c.Total = 0 }),
		"Total 2^20+1":  confWith(func(c *api.Conf) { c.Total = 1<<20 + 1 }),
		"Keep -1":       confWith(func(c *api.Conf) { c.Keep = -1 }),
		"Keep 65537":    confWith(func(c *api.Conf) { c.Keep = 65537 }),
		"Weave -1":      confWith(func(c *api.Conf) { c.Weave = -1 }),
		"Weave 65537":   confWith(func(c *api.Conf) { c.Weave = 65537 }),
		"all zero":      {},
	}
}

// invalidFlows returns changes that make a flow not valid, each by one part alone.
func invalidFlows() map[string]func(f *api.Flow) {
	return map[string]func(f *api.Flow){
		"a part without bytes": func(f *api.Flow) { f.L, f.Next = []api.Sent{part(0, 0, 5000)}, 0 },
		"a gap":                func(f *api.Flow) { f.L, f.Next = []api.Sent{part(0, 10, 5000), part(11, 10, 5000)}, 21 },
		"501 parts":            func(f *api.Flow) { *f = busy(alike(501)...) },
		"Shift 17":             func(f *api.Flow) { f.R.Shift = 17 },
		"Span 0":               func(f *api.Flow) { f.B.Span = 0 },
		"Packets -1":           func(f *api.Flow) { f.M.Packets = -1 },
		"Total -1":             func(f *api.Flow) { f.D.Total = -1 },
		"Quarters 21":          func(f *api.Flow) { f.K.Quarters = 21 },
		"Cwnd 99":              func(f *api.Flow) { f.W.Cwnd = 99 },
		"Thresh 100001":        func(f *api.Flow) { f.W.Thresh = 100001 },
		"a timer of kind 3":    func(f *api.Flow) { f.T.Kind = 3 },
		"a delay of -1":        func(f *api.Flow) { f.Delays = []int{-1} },
		"Next -1":              func(f *api.Flow) { f.L, f.Next = nil, -1 },
		"Next off":             func(f *api.Flow) { f.L, f.Next = []api.Sent{came(part(7, 10, 7))}, 18 },
		"Round 2^60 + 1":       func(f *api.Flow) { f.Round = last + 1 },
	}
}

// unlike returns senders that are not valid for conf, each for one reason alone.
func unlike() map[string]api.Sender {
	all := map[string]api.Sender{"all zero": {}}
	add := func(why string, change func(s *api.Sender)) { all[why] = with(middle(), change) }
	add("Base -1", func(s *api.Sender) { s.K.Base = -1 })
	add("Base -1 alone", func(s *api.Sender) { *s = blank(-1, 0); s.Next, s.Got = 0, 0 })
	add("more bytes than Cap alone", func(s *api.Sender) { *s = blank(0, 1001) })
	add("Cap -1", func(s *api.Sender) { s.K.Cap = -1 })
	add("Cap 999", func(s *api.Sender) { s.K.Cap = 999 })
	add("Cap 1001", func(s *api.Sender) { s.K.Cap = 1001 })
	add("Cap 65537", func(s *api.Sender) { s.K.Cap = 65537 })
	add("more bytes than Cap", func(s *api.Sender) { s.K.B = text(5000, 1001) })
	add("Next below Base", func(s *api.Sender) { *s = blank(5000, 600); s.Next = 4999 })
	add("Next behind the end", func(s *api.Sender) { s.Next = 5601 })
	add("Fin before the end", func(s *api.Sender) { s.K.Shut, s.Fin = true, true })
	add("Fin one before the end", func(s *api.Sender) { s.K.Shut, s.Fin, s.Next = true, true, 5599 })
	add("Fin without Shut", func(s *api.Sender) { s.Fin, s.Next = true, 5600 })
	add("Got below Base", func(s *api.Sender) { s.Got = 4999 })
	add("Got behind what was sent", func(s *api.Sender) { s.Got = 5451 })
	add("Got behind the end", func(s *api.Sender) { *s = ended(*s); s.Got = 5602 })
	for _, n := range outside(0, last) {
		add(fmt.Sprint("Edge ", n), func(s *api.Sender) { s.Edge = n })
		add(fmt.Sprint("Next ", n), func(s *api.Sender) { s.Next = n })
		add(fmt.Sprint("Got ", n), func(s *api.Sender) { s.Got = n })
	}
	for why, l := range map[string][]api.Span{
		"empty":                     {{From: 5060, Upto: 5060}},
		"backward":                  {{From: 5070, Upto: 5060}},
		"out of order":              {{From: 5300, Upto: 5340}, {From: 5060, Upto: 5070}},
		"touching":                  {{From: 5060, Upto: 5070}, {From: 5070, Upto: 5080}},
		"before Base":               {{From: 4999, Upto: 5001}},
		"before Base altogether":    {{From: 10, Upto: 20}},
		"negative":                  {{From: -1, Upto: 5001}},
		"beyond what was sent":      {{From: 5060, Upto: 5070}, {From: 5440, Upto: 5451}},
		"far beyond what was sent":  {{From: 6000, Upto: 6001}},
		"up to 2^62":                {{From: 5440, Upto: 1 << 62}},
		"beyond 2^62":               {{From: 5440, Upto: 1<<62 + 1}},
		"the end, which is not yet": {{From: 5450, Upto: 5451}},
	} {
		add("Back is "+why, func(s *api.Sender) { s.Back = l })
	}
	add("1001 spans", func(s *api.Sender) { *s = wide(1001) })
	add("Back beyond the end", func(s *api.Sender) { *s = ended(*s); s.Back = []api.Span{{From: 5600, Upto: 5602}} })
	for i := range 4 {
		add(fmt.Sprint("a part beyond what was sent on ", i), func(s *api.Sender) { s.F[i] = busy(part(0, 100, 5351)) })
		add(fmt.Sprint("a part that came beyond what was sent on ", i), func(s *api.Sender) { s.F[i] = busy(came(part(0, 100, 5351))) })
		add(fmt.Sprint("a part beyond the end on ", i), func(s *api.Sender) { *s = ended(*s); s.F[i] = busy(part(0, 2, 5600)) })
		add(fmt.Sprint("a part below Base on ", i), func(s *api.Sender) { s.F[i] = busy(part(0, 100, 4999)) })
		add(fmt.Sprint("a lost part below Base on ", i), func(s *api.Sender) { s.F[i] = busy(came(part(0, 1, 0)), lost(part(1, 100, 4999))) })
		for why, change := range invalidFlows() {
			add(fmt.Sprintf("flow %d: %s", i, why), func(s *api.Sender) { change(&s.F[i]) })
		}
	}
	return all
}

// wide is a sender with so many spans in Back, of one position each; it is valid for wideConf, up to 1000 of them.
func wide(n int) api.Sender {
	s := past(5000, 3000)
	s.K.Cap = 3000
	for i := range n {
		s.Back = append(s.Back, api.Span{From: 5000 + 2*i, Upto: 5001 + 2*i})
	}
	return s
}

// wideConf is conf with a Keep of 3000.
var wideConf = confWith(func(c *api.Conf) { c.Keep = 3000 })

// P20.1: each field of a new sender.
func TestNew(t *testing.T) {
	for _, x := range []struct{ mss, most, cwnd, span, keep, weave int }{
		{100, 100000, 1000, 1000000, 1000, 500}, {100, 999, 999, 1, 0, 0}, {1, 1, 1, 1 << 40, 65536, 65536}, {1460, 1 << 30, 14600, 77, 1, 2},
	} {
		c := confWith(func(c *api.Conf) { c.Mss, c.Most, c.Span, c.Keep, c.Weave = x.mss, x.most, x.span, x.keep, x.weave })
		want := api.Sender{K: api.Keep{Cap: x.keep}, Edge: x.weave}
		for i := range want.F {
			want.F[i] = api.Flow{Up: i == 0, B: api.Least{Span: x.span}, W: api.Win{Cwnd: x.cwnd, Thresh: x.most}}
		}
		for range 2 {
			s, e := sender.New(c)
			expectEqual(t, fmt.Sprint(x), e, api.OK)
			expectEqual(t, fmt.Sprint(x), s, want)
			expectMay(t, fmt.Sprint(x), s, c, true)
		}
	}
	for why, c := range invalidConfs() {
		s, e := sender.New(c)
		expectEqual(t, why, e, api.ErrArg)
		expectEqual(t, why, s, api.Sender{})
	}
}

// expectMay checks what May reports, and that it changes nothing (R3).
func expectMay(t *testing.T, why string, s api.Sender, c api.Conf, want bool) {
	t.Helper()
	g := owned(s)
	before := plain(whole(g))
	if sender.May(g, c) != want || sender.May(g, c) != want || isValid(g, c) != want {
		t.Errorf("%s: not %v", why, want)
	}
	expectEqual(t, why+": what was given", whole(g), before)
}

// P20.1: each part by itself not valid.
func TestMayNot(t *testing.T) {
	expectMay(t, "a valid sender", middle(), conf, true)
	for why, s := range unlike() {
		expectMay(t, why, s, conf, false)
	}
	for why, c := range invalidConfs() {
		expectMay(t, why, middle(), c, false)
		expectMay(t, why+", nothing sent", blank(0, 0), c, false)
	}
	expectMay(t, "all of both zero", api.Sender{}, api.Conf{}, false)
	expectMay(t, "500 parts", with(middle(), func(s *api.Sender) { s.F[2] = busy(alike(500)...) }), conf, true)
	expectMay(t, "1000 spans", wide(1000), wideConf, true)
	expectMay(t, "1001 spans", wide(1001), wideConf, false)
}

// P20.1: positions at and beyond the ends of their ranges.
func TestMayPositions(t *testing.T) {
	for _, base := range []int{0, 1, 5000, 1 << 32, last, 1<<61 - 600} {
		for _, x := range []struct {
			next, got int // behind Base
			shut, fin bool
			want      bool
		}{
			{-1, 0, false, false, false}, {0, 0, false, false, true}, {600, 0, false, false, true}, {601, 0, false, false, false},
			{600, 0, true, false, true}, {600, 0, true, true, true}, {599, 0, true, true, false}, {600, 0, false, true, false}, {601, 0, true, true, false},
			{300, -1, false, false, false}, {300, 1, false, false, true}, {300, 300, false, false, true}, {300, 301, false, false, false},
			{600, 600, true, true, true}, {600, 601, true, true, true}, {600, 602, true, true, false}, {600, 601, true, false, false},
			{0, 1, false, false, false},
		} {
			s := blank(base, 600)
			s.Edge = 0
			s.Next, s.Got, s.K.Shut, s.Fin = base+x.next, base+x.got, x.shut, x.fin
			expectMay(t, fmt.Sprintf("from %d on: %+v", base, x), s, conf, x.want)
		}
	}
	expectMay(t, "an end beyond 2^61", blank(1<<61-599, 600), conf, false)
	for _, n := range []int{0, 1, 4999, 1 << 40, last - 1, last} {
		expectMay(t, fmt.Sprint("Edge ", n), with(middle(), func(s *api.Sender) { s.Edge = n }), conf, true)
	}
}

// P20.1: spans of Back at the ends of their range.
func TestMayBack(t *testing.T) {
	for _, x := range []struct {
		from, upto int
		fin        bool
		want       bool
	}{
		{5000, 5001, false, true}, {4999, 5001, false, false}, {5449, 5450, false, true}, {5449, 5451, false, false},
		{5000, 5450, false, true}, {5599, 5601, true, true}, {5600, 5601, true, true}, {5600, 5602, true, false}, {5000, 5601, true, true},
	} {
		s := with(middle(), func(s *api.Sender) { s.Back = []api.Span{{From: x.from, Upto: x.upto}} })
		if x.fin {
			s = ended(s)
		}
		expectMay(t, fmt.Sprintf("%+v", x), s, conf, x.want)
	}
}

// P20.1: parts of each flow at the ends of what was sent, and beyond.
func TestMayParts(t *testing.T) {
	for i := range 4 {
		for _, x := range []struct {
			x    api.Sent
			fin  bool
			want bool
		}{
			{part(0, 100, 5350), false, true}, {part(0, 100, 5351), false, false}, {part(0, 101, 5350), false, false},
			{lost(part(0, 100, 5351)), false, false}, {came(part(0, 100, 5351)), false, false}, {came(part(0, 100, 5350)), false, true},
			{part(0, 1, 5600), true, true}, {part(0, 2, 5599), true, true}, {part(0, 2, 5600), true, false}, {part(0, 1, 5601), true, false},
			{part(0, 100, 5000), false, true}, {part(0, 100, 4999), false, false}, {lost(part(0, 100, 4999)), false, false},
			{came(part(0, 100, 4999)), false, true}, {came(part(0, 1, 0)), false, true}, {came(part(0, 1460, 0)), false, true},
			{part(0, 1, 0), false, false}, {part(0, 1, last), false, false}, {came(part(0, 1, last)), true, false},
		} {
			for _, up := range []bool{true, false} {
				s := with(middle(), func(s *api.Sender) { s.F[i] = busy(came(part(0, 1, 0)), x.x); s.F[i].L[1].Seq = 1; s.F[i].Next++ })
				s.F[i].Up = up
				if x.fin {
					s = ended(s)
				}
				expectMay(t, fmt.Sprintf("flow %d: %+v", i, x), s, conf, x.want)
			}
		}
	}
}

// P20.1: what does not matter for validity.
func TestMayWhatever(t *testing.T) {
	for why, change := range map[string]func(s *api.Sender){
		"Waits":                    func(s *api.Sender) { s.Waits = true },
		"Shut":                     func(s *api.Sender) { s.K.Shut = true },
		"no subflow that is Up":    func(s *api.Sender) { s.F[0].Up, s.F[1].Up = false, false },
		"all subflows Up":          func(s *api.Sender) { s.F[2].Up, s.F[3].Up = true, true },
		"Edge below Next":          func(s *api.Sender) { s.Edge = 5 },
		"Got beyond Back":          func(s *api.Sender) { s.Got = 5450 },
		"twice the same bytes":     func(s *api.Sender) { s.F[2] = s.F[1] },
		"bytes that nothing holds": func(s *api.Sender) { s.Got, s.Back, s.F[0].L, s.F[1].L = 5450, nil, nil, nil },
		"an empty Back":            func(s *api.Sender) { s.Back = []api.Span{} },
	} {
		expectMay(t, why, with(middle(), change), conf, true)
	}
}

// P20.1: Fin set and not, and Got one below and at the end of everything sent.
func TestDone(t *testing.T) {
	for _, base := range []int{0, 5000, 1 << 60} {
		for _, n := range []int{0, 600} {
			s := past(base, n)
			s.K.Shut = true
			for _, got := range []int{0, n / 2, n} {
				s.Got = base + got
				expectEqual(t, "not Fin", sender.Done(s), false)
				expectEqual(t, "Fin", sender.Done(ended(s)), false)
			}
			s = ended(s)
			s.Got = base + n + 1
			expectEqual(t, "all has come", sender.Done(s), true)
		}
	}
	for _, x := range []struct {
		next, got int
		fin, want bool
	}{
		{5, 6, true, true}, {5, 6, false, false}, {5, 5, false, false}, {5, 5, true, false}, {5, 7, true, false}, {5, 4, true, false}, {0, 0, true, false},
		{math.MaxInt, math.MinInt, true, false}, {math.MaxInt, math.MaxInt, true, false}, {math.MinInt, math.MinInt, true, false}, {math.MinInt, math.MaxInt, true, false},
	} {
		if sender.Done(api.Sender{Next: x.next, Got: x.got, Fin: x.fin}) != x.want {
			t.Errorf("%+v: not %v", x, x.want)
		}
	}
	given := owned(middle())
	before := plain(whole(given))
	sender.Done(given)
	expectEqual(t, "what was given", whole(given), before)
}

// expectArg checks that each call returns ErrArg for s and c.
func expectArg(t *testing.T, why string, s api.Sender, c api.Conf) {
	t.Helper()
	expectWrite(t, why+", Write", s, c, []byte("abc"), 0, api.ErrArg)
	expectShut(t, why+", Shut", s, c, api.ErrArg)
	for _, i := range []int{-1, 0, 2, 3} {
		expectJoin(t, why+", Join", s, c, i, api.ErrArg)
		expectLeave(t, why+", Leave", s, c, i, api.ErrArg)
	}
	expectPull(t, why+", Pull", s, c, 9000, api.ErrArg)
	expectHear(t, why+", Hear", s, c, ack, 9000, api.ErrArg)
	expectHear(t, why+", Hear what is no acknowledgement", s, c, api.Seg{}, 9000, api.ErrArg)
	expectTick(t, why+", Tick", s, c, 9000, api.ErrArg)
}

// P20.2: each call with a sender, or a configuration, that is not valid; this goes ahead of the other errors.
func TestInvalid(t *testing.T) {
	for why, s := range unlike() {
		expectArg(t, why, s, conf)
		if s.K.Shut = true; !isValid(s, conf) {
			expectWrite(t, why+", Write when shut", s, conf, nil, 0, api.ErrArg)
		}
	}
	for why, c := range invalidConfs() {
		expectArg(t, why, middle(), c)
	}
	expectArg(t, "another Keep", middle(), wideConf)
}

// P20.2: now at and beyond the ends of its range; this goes ahead of the other errors.
func TestNow(t *testing.T) {
	for _, s := range []api.Sender{middle(), blank(0, 0)} {
		for _, n := range outside(0, last) {
			why := fmt.Sprint("now ", n)
			expectPull(t, why, s, conf, n, api.ErrArg)
			expectHear(t, why, s, conf, ack, n, api.ErrArg)
			expectHear(t, why, s, conf, api.Seg{}, n, api.ErrArg)
			expectTick(t, why, s, conf, n, api.ErrArg)
		}
	}
	for _, n := range []int{0, 1, last - 1, last} {
		why := fmt.Sprint("now ", n)
		expectPull(t, why, middle(), conf, n, api.OK)
		expectPull(t, why, blank(0, 0), conf, n, api.ErrNone)
		expectHear(t, why, middle(), conf, ack, n, api.OK)
		expectTick(t, why, middle(), conf, n, api.OK)
	}
}

// P20.2: none, some and all of the bytes are taken, and nothing else changes.
func TestWrite(t *testing.T) {
	for _, x := range []struct{ had, n, taken int }{
		{0, 0, 0}, {0, 1, 1}, {0, 1000, 1000}, {0, 1001, 1000}, {600, 399, 399}, {600, 400, 400}, {600, 401, 400}, {999, 2, 1}, {1000, 0, 0}, {1000, 1, 0}, {1000, 500, 0},
	} {
		for _, base := range []int{0, 5000, 1 << 32} {
			b := text(base+x.had, x.n)
			s := blank(base, x.had)
			a := expectWrite(t, fmt.Sprintf("%+v", x), s, conf, b, x.taken, api.OK)
			s.K.B = text(base, x.had+x.taken)
			expectSame(t, fmt.Sprintf("%+v", x), a, answer{sender: s, n: x.taken})
		}
	}
	s := middle()
	a := expectWrite(t, "to many lists", s, conf, []byte("abc"), 3, api.OK)
	s.K.B = append(s.K.B, "abc"...)
	expectSame(t, "to many lists", a, answer{sender: s, n: 3})
	a = expectWrite(t, "nothing", middle(), conf, nil, 0, api.OK)
	expectSame(t, "nothing", a, answer{sender: middle()})

	s = blank(1<<61-605, 600)
	s.Edge = last
	a = expectWrite(t, "up to 2^61", s, conf, text(0, 10), 5, api.OK)
	expectWrite(t, "at 2^61", a.sender, conf, text(0, 10), 0, api.OK)
	expectWrite(t, "without space at all", with(blank(0, 0), func(s *api.Sender) { s.K.Cap = 0 }), confWith(func(c *api.Conf) { c.Keep = 0 }), text(0, 10), 0, api.OK)
}

// P20.2: nothing is written behind the end.
func TestWriteShut(t *testing.T) {
	for _, s := range []api.Sender{middle(), blank(0, 0), blank(0, 1000), past(5000, 600)} {
		s.K.Shut = true
		expectWrite(t, "when shut", s, conf, []byte("abc"), 0, api.ErrDone)
		expectWrite(t, "nothing when shut", s, conf, nil, 0, api.ErrDone)
		expectWrite(t, "when the end was sent", ended(s), conf, []byte("abc"), 0, api.ErrDone)
	}
}

// P20.2: Shut sets Shut, also twice, and nothing else changes.
func TestShut(t *testing.T) {
	for _, s := range []api.Sender{middle(), blank(0, 0), blank(0, 1000), past(5000, 600)} {
		want := with(s, func(s *api.Sender) { s.K.Shut = true })
		a := expectShut(t, "once", s, conf, api.OK)
		expectSame(t, "once", a, answer{sender: want})
		a = expectShut(t, "twice", a.sender, conf, api.OK)
		expectSame(t, "twice", a, answer{sender: want})
		a = expectShut(t, "behind the end", ended(s), conf, api.OK)
		expectSame(t, "behind the end", a, answer{sender: ended(s)})
	}
}

// P1: whatever a call is given, it returns.
func TestAnything(t *testing.T) {
	wild := []int{math.MinInt, -1, 0, 1, 1 << 40, 1 << 60, 1 << 62, math.MaxInt}
	for _, n := range wild {
		x := api.Sent{Seq: n, Len: n, Dsn: n, At: n, Tries: n, Came: true, Total: n, Last: n}
		s := api.Sender{K: api.Keep{Base: n, B: text(0, 3), Cap: n, Shut: true}, Next: n, Got: n, Edge: n, Fin: true, Waits: true, Back: []api.Span{{From: n, Upto: n}}}
		for i := range s.F {
			s.F[i] = api.Flow{
				Up: true, L: []api.Sent{x, x}, Next: n, R: api.Rtt{Srtt: n, Var: n, Rto: n, Shift: n},
				B: api.Least{Span: n, L: []api.Point{{At: n, N: n}}, High: n}, M: api.Marks{Packets: n, Bytes: n, Came: n, Marked: n, Part: n},
				D: api.Rate{Total: n, Last: n, L: []int{n}}, K: api.Rack{At: n, End: n, Took: n, Far: n, Quarters: n},
				W: api.Win{Cwnd: n, Thresh: n}, T: api.Timer{Kind: n, At: n}, Delays: []int{n}, Round: n,
			}
		}
		c := api.Conf{Mss: n, Most: n, Least: n, Longest: n, Span: n, Total: n, Keep: n, Weave: n}
		sender.New(c)
		for _, m := range wild {
			x := api.Seg{Kind: m, Sub: m, Fin: true, Seq: math.MaxUint32, Dsn: uint32(m), Got: uint32(n), Dgot: uint32(m), Win: m, Ace: m, Ce: uint32(n), Sacks: []api.Pair{{From: uint32(m), Upto: uint32(n)}}}
			y := ack
			y.Got, y.Dgot, y.Sacks = x.Got, x.Dgot, x.Sacks
			for _, s := range []api.Sender{s, middle(), {}} {
				sender.Done(s)
				for _, c := range []api.Conf{c, conf, {}} {
					expectSame(t, "Write", writes(s, c, text(0, 3)), writesBy(s, c, text(0, 3)))
					expectSame(t, "Shut", shuts(s, c), shutsBy(s, c))
					expectSame(t, "Join", joins(s, c, m), joinsBy(s, c, m))
					expectSame(t, "Leave", leaves(s, c, m), leavesBy(s, c, m))
					expectSame(t, "Pull", pulls(s, c, m), pullsBy(s, c, m))
					expectSame(t, "Hear", hears(s, c, x, m), hearsBy(s, c, x, m))
					expectSame(t, "Hear", hears(s, c, y, 9000), hearsBy(s, c, y, 9000))
					expectSame(t, "Tick", ticks(s, c, m), ticksBy(s, c, m))
				}
			}
		}
	}
}

// The document's example: after a Write of 250 bytes with Mss 100, Pull returns three segments with 100, 100 and 50 bytes.
func TestExample(t *testing.T) {
	s, _ := sender.New(conf)
	s = expectWrite(t, "write", s, conf, text(0, 250), 250, api.OK).sender
	for i, n := range []int{100, 100, 50} {
		a := expectPull(t, "pull", s, conf, 7, api.OK)
		expectEqual(t, "the segment", a.seg, api.Seg{Kind: api.Data, Seq: uint32(100 * i), Dsn: uint32(100 * i), At: 7, B: text(100*i, n)})
		s = a.sender
	}
	expectPull(t, "nothing is left", s, conf, 7, api.ErrNone)
}
