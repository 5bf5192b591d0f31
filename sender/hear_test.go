package sender_test

import (
	"fmt"
	"math"
	"testing"

	"fourinhand/api"
	"fourinhand/flow"
)

// ackWith returns ack, changed.
func ackWith(change func(x *api.Seg)) api.Seg {
	x := plain(ack)
	change(&x)
	return x
}

// told returns an acknowledgement for subflow i.
func told(i, got, dgot, win int) api.Seg {
	return api.Seg{Kind: api.Ack, Sub: i, Got: uint32(got), Dgot: uint32(dgot), Win: win}
}

// P20.5: all that changes when an acknowledgement is heard.
func TestHear(t *testing.T) {
	s := middle()
	f, arrived, e := flow.Heard(s.F[0], conf, api.Told{Got: 1100, Sacks: []api.Span{{From: 1150, Upto: 1250}}, Ace: 5, Ce: 500, Now: 9000, Growth: 80})
	if e != api.OK || len(arrived) != 1 { // the first part: the third one had come
		t.Fatalf("%v, %d", arrived, e)
	}
	a := expectHear(t, "an acknowledgement", s, conf, ack, 9000, api.OK)
	expectSame(t, "an acknowledgement", a, answer{sender: with(s, func(s *api.Sender) {
		s.F[0] = f
		s.Got, s.Edge = 5050, 5550
		s.K.Base, s.K.B = 5050, text(5050, 550)
	})})
	x := ackWith(func(x *api.Seg) {
		x.Fin, x.Ecn, x.Seq, x.Dsn, x.At, x.Echo, x.B = true, false, 77, 78, 79, 80, text(0, 1461)
	})
	expectSame(t, "with fields that do not matter", expectHear(t, "fields", s, conf, x, 9000, api.OK), a)
}

// P20.5: each reason for ErrForm of the numbers by itself, and numbers at the ends of their ranges.
func TestHearForm(t *testing.T) {
	for _, n := range []int{api.Join, api.Joined, api.Data, api.Reset, api.Kinds, -1, math.MinInt, math.MaxInt} {
		expectHear(t, fmt.Sprint("Kind ", n), middle(), conf, ackWith(func(x *api.Seg) { x.Kind = n }), 9000, api.ErrForm)
	}
	for _, r := range []struct {
		name string
		high int
		set  func(x *api.Seg, n int)
	}{
		{"Win", 65535, func(x *api.Seg, n int) { x.Win = n }},
		{"Ace", 7, func(x *api.Seg, n int) { x.Ace = n }},
		{"Ce", 1<<24 - 1, func(x *api.Seg, n int) { x.Ce = uint32(n) }},
		{"Sub", 3, func(x *api.Seg, n int) { x.Sub, x.Got, x.Sacks = n, uint32(middle().F[n&3].Next), nil }},
	} {
		for _, n := range []int{0, 1, r.high - 1, r.high} {
			expectHear(t, fmt.Sprint(r.name, " ", n), middle(), conf, ackWith(func(x *api.Seg) { r.set(x, n) }), 9000, api.OK)
		}
		for _, n := range outside(0, r.high) {
			if r.name == "Ce" && (n < 0 || n > math.MaxUint32) {
				n = math.MaxUint32
			}
			expectHear(t, fmt.Sprint(r.name, " ", n), middle(), conf, ackWith(func(x *api.Seg) { r.set(x, n) }), 9000, api.ErrForm)
		}
	}
}

// P20.5: Dgot around the end of everything sent, and around Got.
func TestHearDgot(t *testing.T) {
	const turn = 1 << 32
	for _, base := range []int{0, 5000, turn - 5, turn - 400, 7*turn + 3, 9*turn - 400, last} {
		for _, fin := range []bool{false, true} {
			s := past(base, 400, down(idle()))
			s.Edge = min(base+500, last)
			if fin {
				s = ended(s)
			}
			for _, got := range []int{0, 1, 200, 399, 400, 401} {
				if s.Got = base + got; s.Got > sentUpto(s) {
					continue
				}
				for _, n := range []int{-5, -1, 0, 1, got - 1, got, got + 1, 200, 399, 400, 401, 402, 1 << 30, 1 << 31} {
					want, e := base+max(got, n), api.OK
					switch {
					case base+n < 0 || n >= 1<<31: // nearest is another number
						continue
					case base+n > sentUpto(s):
						want, e = 0, api.ErrForm
					}
					why := fmt.Sprintf("from %d on, Got %d, Dgot %d, Fin %v", base, got, n, fin)
					a := expectHear(t, why, s, conf, told(0, 0, base+n, 0), 9000, e)
					expectEqual(t, why, a.sender.Got, want)
				}
			}
		}
	}
}

// P20.5: Dgot is read near Got, not near Next or Base.
func TestHearNear(t *testing.T) {
	const half = 1 << 31
	s := past(half+600, 400, down(idle()))
	for _, x := range []struct {
		got, dgot int
		e         api.Errno
	}{
		{half + 600, 600, api.OK}, {half + 700, 700, api.OK}, // equally near below as above, where the smaller one counts
		{half + 600, 599, api.ErrForm}, {half + 700, 699, api.ErrForm}, // above, by half a turn less one
		{half + 600, 601, api.OK}, {half + 700, 701, api.OK},
	} {
		s.Got = x.got
		a := expectHear(t, fmt.Sprintf("%+v", x), s, conf, told(0, 0, x.dgot, 0), 9000, x.e)
		if x.e == api.OK {
			expectEqual(t, fmt.Sprintf("%+v", x), a.sender.Got, x.got)
		}
	}
}

// P20.5: which of several errors is returned.
func TestHearOrder(t *testing.T) {
	bad := []api.Pair{{From: 5, Upto: 5}}
	for _, x := range []struct {
		why    string
		change func(x *api.Seg)
		e      api.Errno
	}{
		{"no acknowledgement, and a Got that was not sent", func(x *api.Seg) { x.Kind, x.Got = api.Data, 9999 }, api.ErrForm},
		{"a Dgot, and a Got, that were not sent", func(x *api.Seg) { x.Dgot, x.Got = 5451, 9999 }, api.ErrForm},
		{"bad Sacks, and a Got that was not sent", func(x *api.Seg) { x.Sacks, x.Got = bad, 9999 }, api.ErrForm},
		{"a Got that was not sent", func(x *api.Seg) { x.Got = 9999 }, api.ErrNone},
		{"bad Sacks without parts, and another Got", func(x *api.Seg) { x.Sub, x.Sacks, x.Got = 2, bad, 9999 }, api.ErrForm},
		{"bad Sacks without parts", func(x *api.Seg) { x.Sub, x.Sacks, x.Got = 2, bad, 0 }, api.ErrForm},
		{"another Got without parts", func(x *api.Seg) { x.Sub, x.Sacks, x.Got = 2, nil, 9999 }, api.ErrNone},
		{"another Got without parts, of a subflow that is not Up", func(x *api.Seg) { x.Sub, x.Sacks, x.Got = 3, bad, 9999 }, api.OK},
		{"a Dgot that was not sent, of a subflow that is not Up", func(x *api.Seg) { x.Sub, x.Dgot = 3, 5451 }, api.ErrForm},
		{"a Win out of range, of a subflow that is not Up", func(x *api.Seg) { x.Sub, x.Win = 3, 65536 }, api.ErrForm},
	} {
		s := with(middle(), func(s *api.Sender) { s.F[2].Up = true })
		expectHear(t, x.why, s, conf, ackWith(x.change), 9000, x.e)
	}
}

// P20.5: Sacks that are a valid list of spans, and that are not.
func TestHearSacks(t *testing.T) {
	const turn = 1 << 32
	many := func(n int) []api.Pair {
		var l []api.Pair
		for i := range n {
			l = append(l, api.Pair{From: uint32(3*turn - 1500 + 3*i), Upto: uint32(3*turn - 1499 + 3*i)})
		}
		return l
	}
	at := func(ends ...int) []api.Pair {
		var l []api.Pair
		for i := 0; i < len(ends); i += 2 {
			l = append(l, api.Pair{From: uint32(ends[i]), Upto: uint32(ends[i+1])})
		}
		return l
	}
	for _, x := range []struct {
		why   string
		sacks []api.Pair
		came  []bool // which parts come
		e     api.Errno
	}{
		{"none", nil, []bool{false, false, false}, api.OK},
		{"one", at(-500, 500), []bool{false, true, false}, api.OK},
		{"several", at(-1500, -1400, -500, 500), []bool{false, true, false}, api.OK},
		{"not whole parts", at(-499, 500, 501, 1960), []bool{false, false, false}, api.OK},
		{"the last two", at(-500, 1960), []bool{false, true, true}, api.OK},
		{"the last one", at(500, 1960), []bool{false, false, true}, api.OK},
		{"more than three", at(-1500, -1490, -1480, -1470, -1460, -1450, 500, 1960), []bool{false, false, true}, api.OK},
		{"1000", many(1000), []bool{false, false, false}, api.OK},
		{"1001", many(1001), nil, api.ErrForm},
		{"empty", at(5, 5), nil, api.ErrForm},
		{"empty at 0", at(0, 0), nil, api.ErrForm},
		{"backward", at(6, 5), nil, api.ErrForm},
		{"backward across 2^32", at(500, -500), nil, api.ErrForm},
		{"overlapping", at(-500, 500, 499, 600), nil, api.ErrForm},
		{"touching", at(-500, 500, 500, 600), nil, api.ErrForm},
		{"out of order", at(500, 600, -500, 400), nil, api.ErrForm},
		{"one of them empty", at(-500, 500, 600, 600), nil, api.ErrForm},
		{"beyond what was sent", at(500, 1961), nil, api.ErrNone},
		{"before what was sent", at(-1961, -1950), nil, api.ErrNone},
		{"far beyond what was sent", at(1<<30, 1<<30+1), nil, api.ErrNone},
	} {
		s := past(5000, 1000)
		s.F[1] = busy(part(3*turn-1960, 1460, 5000), part(3*turn-500, 1000, 5000), part(3*turn+500, 1460, 5000))
		for i := range 3 {
			s.F[1].L[i].Len = []int{1460, 1000, 1460}[i]
		}
		s.K.B, s.K.Cap, s.Next = text(5000, 2000), 3000, 7000
		ack := told(1, 3*turn-1960, 5000, 0)
		ack.Sacks = x.sacks
		a := expectHear(t, x.why, s, wideConf, ack, 9000, x.e)
		for i, want := range x.came {
			expectEqual(t, fmt.Sprintf("%s: part %d", x.why, i), a.sender.F[1].L[i].Came, want)
		}
		s.F[1].Up = false
		expectHear(t, x.why+", not Up", s, wideConf, ack, 9000, api.OK)
	}
}

// P20.5: an acknowledgement for a flow without parts.
func TestHearIdle(t *testing.T) {
	const turn = 1 << 32
	for _, next := range []int{0, 300, turn - 1, turn, 5*turn + 7, last} {
		for _, off := range []int{-300, -1, 0, 1, 300} {
			s := with(middle(), func(s *api.Sender) {
				s.F[3].Up, s.F[3].Next = true, next
				s.F[3].M.Packets, s.F[3].Round = 3, 5
			})
			x := told(3, next+off, 5050, 500)
			x.Ace, x.Ce, x.Sacks = 1, 70, []api.Pair{{From: uint32(next + 5), Upto: uint32(next + 6)}}
			why := fmt.Sprintf("Got %d off %d", off, next)
			if off != 0 {
				expectHear(t, why, s, conf, x, 9000, api.ErrNone)
				continue
			}
			a := expectHear(t, why, s, conf, x, 9000, api.OK)
			expectSame(t, why, a, answer{sender: with(s, func(s *api.Sender) { // the flow is as it was
				s.Got, s.Edge = 5050, 5550
			})})
		}
	}
}

// P20.5: a flow that is not Up hears nothing; the rest is done.
func TestHearDown(t *testing.T) {
	for _, x := range []api.Seg{ack, ackWith(func(x *api.Seg) { x.Got = 9999 }), ackWith(func(x *api.Seg) { x.Sacks = []api.Pair{{}} })} {
		s := with(middle(), func(s *api.Sender) { s.F[0].Up = false })
		a := expectHear(t, "not Up", s, conf, x, 9000, api.OK)
		expectSame(t, "not Up", a, answer{sender: with(s, func(s *api.Sender) { s.Got, s.Edge = 5050, 5550 })})
	}
}

// P20.5: errors of flow.Heard.
func TestHearErrors(t *testing.T) {
	for _, x := range []struct {
		why string
		got int
		e   api.Errno
	}{
		{"before the first part", 999, api.ErrNone}, {"at the first part", 1000, api.OK}, {"within a part", 1001, api.OK},
		{"at the end of the last part", 1350, api.OK}, {"behind the last part", 1351, api.ErrNone},
	} {
		expectHear(t, x.why, middle(), conf, ackWith(func(y *api.Seg) { y.Sacks, y.Got = nil, uint32(x.got) }), 9000, x.e)
	}
	for why, change := range map[string]func(f *api.Flow){
		"too many bytes in a round": func(f *api.Flow) { f.M.Came = last - 99 },
		"too many bytes":            func(f *api.Flow) { f.D.Total = last - 99 },
		"too many marks":            func(f *api.Flow) { f.M.Packets, f.M.Bytes = last, 500 }, // 0 modulo 8
	} {
		s := with(middle(), func(s *api.Sender) { change(&s.F[0]) })
		expectHear(t, why, s, conf, ack, 9000, api.ErrOver)
	}
}

// growing is a flow that has sent a part, at whose end a round ends, and whose window grows only by then.
func growing(cwnd, srtt int, delays ...int) api.Flow {
	f := timed(busy(part(0, 100, 5000)), srtt)
	f.L[0].At = 0
	f.W = api.Win{Cwnd: cwnd, Thresh: cwnd}
	f.Delays = delays
	return f
}

var (
	rising  = []int{1, 2, 3, 4}
	risen   = []int{5, 6, 7, 8}
	falling = []int{4, 3, 2, 1}
)

// P20.5: without Vegas, the growth is the share of the ways in the same group.
func TestHearGrowth(t *testing.T) {
	one := growing(1000, 10000, rising...)
	same := growing(1000, 10000, risen...)
	other := growing(1000, 10000, falling...)
	for _, x := range []struct {
		why   string
		flows []api.Flow
		i     int
		want  int
	}{
		{"alone", []api.Flow{one}, 0, 100},
		{"alone, the last one", []api.Flow{down(other), down(other), down(same), one}, 3, 100},
		{"two in a group", []api.Flow{one, same}, 0, 50},
		{"two in a group, the second one", []api.Flow{one, same}, 1, 50},
		{"two in groups of their own", []api.Flow{one, other}, 0, 100},
		{"two in groups of their own, the second one", []api.Flow{one, other}, 1, 100},
		{"two without delays", []api.Flow{growing(1000, 10000), growing(1000, 10000)}, 0, 100},
		{"two in a group, one not Up", []api.Flow{one, down(same)}, 0, 100},
		{"two in a group, and one not", []api.Flow{one, other, same}, 0, 50},
		{"two in a group behind another one", []api.Flow{other, one, same}, 1, 50},
		{"the other one", []api.Flow{one, other, same}, 1, 100},
		{"three in a group", []api.Flow{one, same, one}, 2, 33},
		{"four in a group", []api.Flow{one, same, one, same}, 3, 25},
		{"four in two groups", []api.Flow{one, other, same, other}, 3, 50},
		{"four in two groups, the first one", []api.Flow{one, other, same, other}, 0, 50},
		{"four in a group, two not Up", []api.Flow{one, down(same), down(one), same}, 3, 50},
		{"a greater window", []api.Flow{growing(3000, 10000, rising...), same}, 0, 75},
		{"a smaller window", []api.Flow{growing(3000, 10000, rising...), same}, 1, 24}, // 104857 of 419429
		{"a shorter time", []api.Flow{growing(1000, 5000, rising...), growing(1000, 20000, risen...)}, 0, 80},
		{"a longer time", []api.Flow{growing(1000, 5000, rising...), growing(1000, 20000, risen...)}, 1, 19}, // 52428 of 262143
		{"no time known", []api.Flow{growing(1000, 0, rising...), same}, 0, 0},
		{"no time known of the other one", []api.Flow{one, growing(1000, 0, risen...)}, 0, 100},
		{"a chain", []api.Flow{growing(1000, 10000, 0, 0, 0, 1), growing(1000, 10000, 0, 0, 0, 2), growing(1000, 10000, 0, 0, 0, 3)}, 0, 33},
		{"a chain, of which the middle is not Up", []api.Flow{growing(1000, 10000, 0, 0, 0, 1), down(growing(1000, 10000, 0, 0, 0, 2)), growing(1000, 10000, 0, 0, 0, 3)}, 2, 50},
		{"a chain without the middle", []api.Flow{growing(1000, 10000, 0, 0, 0, 1), idle(), growing(1000, 10000, 0, 0, 0, 3)}, 2, 100},
	} {
		for _, took := range []int{10000, 50000} { // the times are those before this answer
			s := past(5000, 100, x.flows...)
			a := expectHear(t, x.why, s, conf, told(x.i, 100, 5000, 0), took, api.OK)
			expectEqual(t, x.why, a.sender.F[x.i].W.Cwnd, s.F[x.i].W.Cwnd+x.want)
			s.F[x.i] = a.sender.F[x.i]
			expectEqual(t, x.why+": all else", a.sender, s)
		}
	}
}

// P20.5: the growth is the share of Mss.
func TestHearGrowthMss(t *testing.T) {
	for _, mss := range []int{1, 50, 1000} {
		c := confWith(func(c *api.Conf) { c.Mss = mss })
		s := past(5000, 100, growing(1000, 10000, rising...), growing(1000, 10000, falling...))
		a := expectHear(t, fmt.Sprint("Mss ", mss), s, c, told(0, 100, 5000, 0), 10000, api.OK)
		expectEqual(t, fmt.Sprint("Mss ", mss), a.sender.F[0].W.Cwnd, 1000+mss)
		s.F[1].Delays = risen
		a = expectHear(t, fmt.Sprint("Mss ", mss), s, c, told(0, 100, 5000, 0), 10000, api.OK)
		expectEqual(t, fmt.Sprint("Mss ", mss), a.sender.F[0].W.Cwnd, 1000+mss/2)
	}
}

// P20.5: with Vegas, the growth is the alpha among the ways of all subflows.
func TestHearAlpha(t *testing.T) {
	c := confWith(func(c *api.Conf) { c.Vegas = true })
	one := growing(1000, 10000, rising...)
	same := growing(1000, 10000, risen...)
	other := growing(1000, 10000, falling...)
	for _, x := range []struct {
		why   string
		flows []api.Flow
		i     int
		total int
		want  int
	}{
		{"alone", []api.Flow{one}, 0, 8, 8},
		{"alone, with another Total", []api.Flow{one}, 0, 5, 5},
		{"two", []api.Flow{one, same}, 0, 8, 4},
		{"two, the second one", []api.Flow{one, same}, 1, 8, 4},
		{"two of which one is not Up", []api.Flow{one, down(same)}, 0, 8, 8},
		{"two, whatever their groups", []api.Flow{one, other}, 0, 8, 4},
		{"four", []api.Flow{one, other, same, other}, 2, 8, 2},
		{"three that are Up", []api.Flow{one, other, down(same), other}, 3, 8, 2},
		{"a greater window of another one", []api.Flow{one, growing(2999, 10000)}, 0, 8, 2},
		{"a greater window", []api.Flow{growing(2999, 10000), one}, 1, 8, 2},
		{"rounded down", []api.Flow{one, growing(3000, 10000)}, 0, 8, 1},
		{"a longer time of another one", []api.Flow{one, growing(1000, 30000)}, 0, 8, 6},
		{"no time known of another one", []api.Flow{one, growing(1000, 0)}, 0, 8, 8},
		{"1 at least", []api.Flow{one, growing(100000, 10)}, 0, 8, 1},
	} {
		for queue, grown := range map[int]int{x.want - 1: 100, x.want: 0, x.want + 1: -100} {
			s := past(5000, 100, x.flows...)
			c.Total = x.total
			s.F[x.i].B.L = []api.Point{{At: 0, N: 10000 - 1000*queue}}
			why := fmt.Sprintf("%s, with %d in queues", x.why, queue)
			if queue == 0 { // answers take as long as they took at least
				s.F[x.i].B.L = nil
			}
			a := expectHear(t, why, s, c, told(x.i, 100, 5000, 0), 10000, api.OK)
			expectEqual(t, why, a.sender.F[x.i].W.Cwnd, 1000+grown)
			a = expectHear(t, why, s, conf, told(x.i, 100, 5000, 0), 10000, api.OK)
			if cwnd := a.sender.F[x.i].W.Cwnd; cwnd <= 1000 {
				t.Errorf("%s: Cwnd %d without Vegas", why, cwnd)
			}
		}
	}
}

// P20.5: Got becomes Dgot if that is greater, and what is before Got is removed from Back.
func TestHearBack(t *testing.T) {
	for _, x := range []struct {
		got, dgot int
		want      int
		back      []api.Span
	}{
		{5040, 5039, 5040, []api.Span{{From: 5060, Upto: 5070}, {From: 5300, Upto: 5340}}},
		{5040, 5040, 5040, []api.Span{{From: 5060, Upto: 5070}, {From: 5300, Upto: 5340}}},
		{5040, 5041, 5041, []api.Span{{From: 5060, Upto: 5070}, {From: 5300, Upto: 5340}}},
		{5040, 5060, 5060, []api.Span{{From: 5060, Upto: 5070}, {From: 5300, Upto: 5340}}},
		{5040, 5061, 5061, []api.Span{{From: 5061, Upto: 5070}, {From: 5300, Upto: 5340}}},
		{5040, 5069, 5069, []api.Span{{From: 5069, Upto: 5070}, {From: 5300, Upto: 5340}}},
		{5040, 5070, 5070, []api.Span{{From: 5300, Upto: 5340}}},
		{5040, 5200, 5200, []api.Span{{From: 5300, Upto: 5340}}},
		{5040, 5310, 5310, []api.Span{{From: 5310, Upto: 5340}}},
		{5040, 5340, 5340, nil},
		{5040, 5450, 5450, nil},
		{5320, 5050, 5320, []api.Span{{From: 5320, Upto: 5340}}}, // before Got, also where Got is as it was
		{5450, 5000, 5450, nil},
	} {
		s := with(middle(), func(s *api.Sender) { s.Got = x.got })
		why := fmt.Sprintf("%+v", x)
		a := expectHear(t, why, s, conf, told(2, 0, x.dgot, 0), 9000, api.OK)
		expectEqual(t, why, a.sender.Got, x.want)
		expectEqual(t, why, a.sender.Back, x.back)
		expectEqual(t, why, a.sender.F, s.F)
		expectEqual(t, why, a.sender.Edge, 5500)
	}
	s := past(0, 400, idle())
	s.Back = []api.Span{{From: 0, Upto: 10}}
	a := expectHear(t, "nothing has come", s, conf, told(0, 0, 0, 0), 9000, api.OK)
	expectSame(t, "nothing has come", a, answer{sender: s})
	a = expectHear(t, "one has come", s, conf, told(0, 0, 1, 0), 9000, api.OK)
	expectEqual(t, "one has come", a.sender.Back, []api.Span{{From: 1, Upto: 10}})
	s = ended(past(5000, 400, idle()))
	s.Back = []api.Span{{From: 5390, Upto: 5401}}
	a = expectHear(t, "all but the end has come", s, conf, told(0, 0, 5400, 0), 9000, api.OK)
	expectEqual(t, "all but the end has come", a.sender.Back, []api.Span{{From: 5400, Upto: 5401}})
	a = expectHear(t, "the end has come", s, conf, told(0, 0, 5401, 0), 9000, api.OK)
	expectEqual(t, "the end has come", a.sender.Back, nil)
}

// P20.5: Edge becomes Dgot + Win if that is greater, but at most 2^60.
func TestHearEdge(t *testing.T) {
	for _, x := range []struct{ base, edge, dgot, win, want int }{
		{5000, 5500, 5100, 399, 5500}, {5000, 5500, 5100, 400, 5500}, {5000, 5500, 5100, 401, 5501}, {5000, 5500, 5100, 65535, 70635},
		{5000, 5500, 5100, 0, 5500}, {5000, 5500, 5000, 1000, 6000}, {5000, 0, 5300, 0, 5300}, {5000, 5500, 4990, 511, 5501}, // also with a Dgot before Got
		{last - 300, last - 200, last - 200, 199, last - 1}, {last - 300, last - 200, last - 200, 200, last}, {last - 300, last - 200, last - 200, 201, last},
		{last - 300, last - 200, last, 65535, last}, {last - 300, last, last, 65535, last}, {last + 5, 7, last + 6, 0, last}, {1<<61 - 400, 7, 1<<61 - 400, 65535, last},
	} {
		s := past(x.base, 400, idle())
		s.Edge, s.Got = x.edge, x.base+100
		why := fmt.Sprintf("%+v", x)
		a := expectHear(t, why, s, conf, told(0, 0, x.dgot, x.win), 9000, api.OK)
		expectEqual(t, why, a.sender.Edge, x.want)
		expectEqual(t, why, a.sender.Got, max(x.dgot, s.Got))
	}
}

// P20.5: what is released, by each of its limits as the smallest one.
func TestHearReleases(t *testing.T) {
	for _, x := range []struct {
		why  string
		s    api.Sender
		dgot int
		want int // the Base
	}{
		{"Got", past(5000, 600, idle()), 5200, 5200},
		{"Got, as it was", with(past(5000, 600, idle()), func(s *api.Sender) { s.Got = 5100 }), 5000, 5100},
		{"nothing", past(5000, 600, idle()), 5000, 5000},
		{"the end of the bytes", past(5000, 600, idle()), 5600, 5600},
		{"the end of the bytes, and the end", ended(past(5000, 600, idle())), 5601, 5600},
		{"all but the end", ended(past(5000, 600, idle())), 5600, 5600},
		{"a part", past(5000, 600, idle(), busy(part(0, 100, 5150))), 5200, 5150},
		{"a lost part", past(5000, 600, idle(), busy(lost(part(0, 100, 5150)))), 5200, 5150},
		{"a part at the beginning", past(5000, 600, idle(), busy(part(0, 100, 5000))), 5200, 5000},
		{"the least one of several parts", past(5000, 600, idle(), busy(part(0, 10, 5180), part(10, 10, 5120), part(20, 10, 5150)), busy(part(0, 10, 5130))), 5200, 5120},
		{"the least one, on another subflow", past(5000, 600, idle(), busy(part(0, 10, 5180)), down(idle()), busy(part(0, 10, 5130))), 5200, 5130},
		{"a part of a subflow that is not Up", past(5000, 600, idle(), down(busy(part(0, 100, 5150)))), 5200, 5150},
		{"a part that has come", past(5000, 600, idle(), busy(came(part(0, 100, 5150)))), 5200, 5200},
		{"parts of which one has come", past(5000, 600, idle(), busy(came(part(0, 100, 5010)), part(100, 10, 5170), came(part(110, 10, 5020)))), 5200, 5170},
		{"a part behind Got", past(5000, 600, idle(), busy(part(0, 100, 5300))), 5200, 5200},
		{"the end as a part", ended(past(5000, 600, idle(), busy(part(0, 1, 5600)))), 5601, 5600},
		{"Back, of which the rest is behind Got", with(past(5000, 600, idle()), func(s *api.Sender) { s.Back = []api.Span{{From: 5100, Upto: 5300}} }), 5200, 5200},
		{"a part before Back", with(past(5000, 600, idle(), busy(part(0, 1, 5100))), func(s *api.Sender) { s.Back = []api.Span{{From: 5150, Upto: 5300}} }), 5200, 5100},
	} {
		a := expectHear(t, x.why, x.s, conf, told(0, 0, x.dgot, 0), 9000, api.OK)
		k := x.s.K
		k.Base, k.B = x.want, text(x.want, 5600-x.want)
		expectEqual(t, x.why, a.sender.K, k)
	}
	s := past(5000, 600, busy(part(0, 100, 5000), part(100, 100, 5100)))
	a := expectHear(t, "parts that come now are no limit", s, conf, told(0, 100, 5200, 0), 9000, api.OK)
	expectEqual(t, "parts that come now are no limit", a.sender.K.Base, 5100)
	x := told(0, 0, 5200, 0)
	x.Sacks = []api.Pair{{From: 0, Upto: 100}}
	a = expectHear(t, "nor those in Sacks", s, conf, x, 9000, api.OK)
	expectEqual(t, "nor those in Sacks", a.sender.K.Base, 5100)
	a = expectHear(t, "bytes that another subflow brought are kept for the part", s, conf, told(0, 0, 5200, 0), 9000, api.OK)
	expectEqual(t, "bytes that another subflow brought are kept for the part", a.sender.K.Base, 5000)
}

// P20.5: Back limits the release where it begins before Got, as with a Leave, or where it was so before.
func TestBackReleases(t *testing.T) {
	s := past(5000, 600, busy(part(0, 100, 5300)), idle())
	s.Got, s.Back = 5200, []api.Span{{From: 5150, Upto: 5160}, {From: 5170, Upto: 5180}}
	a := expectLeave(t, "Back before Got", s, conf, 0, api.OK)
	expectEqual(t, "Back before Got", a.sender.K.Base, 5150)
}
