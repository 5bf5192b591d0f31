package flow_test

import (
	"fmt"
	"math"
	"reflect"
	"slices"
	"testing"

	"fourinhand/api"
	"fourinhand/flow"
	"fourinhand/sent"
)

const (
	last     = 1 << 60 // the last time, and the last position
	longest  = 1 << 40 // the greatest time that is measured, or waited
	widest   = 1 << 30 // the greatest window
	greatest = 1 << 20 // the greatest Total, and the greatest Growth
)

// conf is a valid configuration.
var conf = api.Conf{Mss: 100, Most: 100000, Least: 1000, Longest: 1000000, Span: 1000000, Total: 8, Keep: 1000, Weave: 1000}

// confWith returns conf, changed.
func confWith(change func(c *api.Conf)) api.Conf {
	c := conf
	change(&c)
	return c
}

// flowWith returns f, changed, with lists of its own.
func flowWith(f api.Flow, change func(f *api.Flow)) api.Flow {
	f = owned(f)
	change(&f)
	return f
}

// part returns a part that was sent once.
func part(seq, n, at int) api.Sent { return api.Sent{Seq: seq, Len: n, Dsn: seq, At: at, Tries: 1} }

// came and lost return a part that has come, and one that is lost.
func came(x api.Sent) api.Sent { x.Came = true; return x }
func lost(x api.Sent) api.Sent { x.Lost = true; return x }

// tried returns a part that was sent so often.
func tried(x api.Sent, tries int) api.Sent { x.Tries = tries; return x }

// idle is a valid flow that has no parts.
func idle() api.Flow {
	return api.Flow{Up: true, B: api.Least{Span: 1000000}, W: api.Win{Cwnd: 1000, Thresh: 1000}}
}

// busy is a valid flow with these parts, in a round that ends behind them.
func busy(l ...api.Sent) api.Flow {
	f := idle()
	f.L = l
	f.Next = l[len(l)-1].Seq + l[len(l)-1].Len
	f.Round = f.Next
	return f
}

// full is a valid flow in which each list has elements.
func full() api.Flow {
	f := busy(part(1000, 100, 500), lost(part(1100, 50, 600)), came(part(1150, 100, 700)), part(1250, 100, 800))
	f.R = api.Rtt{Has: true, Srtt: 10000, Var: 2000, Rto: 18000}
	f.B.L = []api.Point{{At: 300, N: 8000}, {At: 400, N: 9000}}
	f.B.High = 3
	f.M = api.Marks{Packets: 5, Bytes: 500, Came: 300, Marked: 100, Part: 200}
	f.D = api.Rate{Total: 900, Last: 650, L: []int{5000, 7000}}
	f.K = api.Rack{At: 400, End: 1000, Took: 9000, Far: 1000, Quarters: 2}
	f.T = api.Timer{Kind: api.Probe, At: 20800}
	f.Delays = []int{10, 20, 30}
	return f
}

// many is a valid flow with so many parts of one byte.
func many(n int) api.Flow {
	var l []api.Sent
	for i := range n {
		l = append(l, part(i, 1, i))
	}
	return busy(l...)
}

// inside returns numbers up to the ends of the range from low to high.
func inside(low, high int) []int { return []int{low, low + 1, low + (high-low)/2, high - 1, high} }

// outside returns numbers that are not in the range from low to high.
func outside(low, high int) []int {
	return []int{low - 1, low - 2, -high - 2, math.MinInt, math.MinInt + 1, high + 1, high + 2, 1 << 62, math.MaxInt - 1, math.MaxInt}
}

// confRange is the range of a field of a configuration, when the others are as in conf.
type confRange struct {
	name      string
	low, high int
	set       func(c *api.Conf, n int)
}

// confRanges returns the ranges of all fields.
func confRanges() []confRange {
	return []confRange{
		{"Mss", 1, 1460, func(c *api.Conf, n int) { c.Mss = n }},
		{"Most", 100, widest, func(c *api.Conf, n int) { c.Most = n }},
		{"Least", 1, 1000000, func(c *api.Conf, n int) { c.Least = n }},
		{"Longest", 1000, longest, func(c *api.Conf, n int) { c.Longest = n }},
		{"Span", 1, longest, func(c *api.Conf, n int) { c.Span = n }},
		{"Total", 1, greatest, func(c *api.Conf, n int) { c.Total = n }},
		{"Keep", 0, 65536, func(c *api.Conf, n int) { c.Keep = n }},
		{"Weave", 0, 65536, func(c *api.Conf, n int) { c.Weave = n }},
	}
}

// confs returns configurations in which one field is changed, to each of the numbers that it is given by among.
func confs(among func(low, high int) []int) map[string]api.Conf {
	all := map[string]api.Conf{}
	for _, r := range confRanges() {
		for _, n := range among(r.low, r.high) {
			all[fmt.Sprintf("%s %d", r.name, n)] = confWith(func(c *api.Conf) { r.set(c, n) })
		}
	}
	return all
}

// invalidConfs returns configurations that are not valid, each for one reason alone.
func invalidConfs() map[string]api.Conf {
	all := confs(outside)
	all["Most below a greater Mss"] = confWith(func(c *api.Conf) { c.Mss, c.Most = 1460, 1459 })
	all["Least above a Longest of 1"] = confWith(func(c *api.Conf) { c.Least, c.Longest = 2, 1 })
	all["all zero"] = api.Conf{}
	return all
}

// invalidFlows returns flows that are not valid for conf, each for one part alone.
func invalidFlows(f api.Flow) map[string]api.Flow {
	all := map[string]api.Flow{}
	add := func(why string, change func(f *api.Flow)) { all[why] = flowWith(f, change) }
	add("a part without bytes", func(f *api.Flow) { f.L, f.Next = []api.Sent{part(0, 0, 0)}, 0 })
	add("a gap between parts", func(f *api.Flow) { f.L, f.Next = []api.Sent{part(0, 10, 0), part(11, 10, 0)}, 21 })
	add("501 parts", func(f *api.Flow) { f.L, f.Next = many(501).L, 501 })
	add("Shift 17", func(f *api.Flow) { f.R.Shift = 17 })
	add("Rto -1", func(f *api.Flow) { f.R.Rto = -1 })
	add("Span 0", func(f *api.Flow) { f.B.Span = 0 })
	add("High 8", func(f *api.Flow) { f.B.High = 8 })
	add("a point at -1", func(f *api.Flow) { f.B.L = []api.Point{{At: -1, N: 1}} })
	add("Packets -1", func(f *api.Flow) { f.M.Packets = -1 })
	add("Part 1025", func(f *api.Flow) { f.M.Part = 1025 })
	add("Total -1", func(f *api.Flow) { f.D.Total = -1 })
	add("a sample -1", func(f *api.Flow) { f.D.L = []int{-1} })
	add("Quarters 21", func(f *api.Flow) { f.K.Quarters = 21 })
	add("Far -1", func(f *api.Flow) { f.K.Far = -1 })
	add("Cwnd below Mss", func(f *api.Flow) { f.W.Cwnd = 99 })
	add("Cwnd above Most", func(f *api.Flow) { f.W.Cwnd = 100001 })
	add("Thresh below Mss", func(f *api.Flow) { f.W.Thresh = 99 })
	add("Thresh above Most", func(f *api.Flow) { f.W.Thresh = 100001 })
	add("a timer of kind 3", func(f *api.Flow) { f.T = api.Timer{Kind: 3} })
	add("a Still timer at 1", func(f *api.Flow) { f.T = api.Timer{At: 1} })
	add("17 delays", func(f *api.Flow) { f.Delays = make([]int, 17) })
	add("a delay above 2^18", func(f *api.Flow) { f.Delays = []int{1<<18 + 1} })
	for _, n := range outside(0, last) {
		add(fmt.Sprintf("Next %d", n), func(f *api.Flow) { f.L, f.Next = nil, n })
		add(fmt.Sprintf("Round %d", n), func(f *api.Flow) { f.Round = n })
	}
	add("Next below the end", func(f *api.Flow) { f.L, f.Next = []api.Sent{part(5, 10, 0)}, 14 })
	add("Next above the end", func(f *api.Flow) { f.L, f.Next = []api.Sent{part(5, 10, 0)}, 16 })
	add("Next at the beginning", func(f *api.Flow) { f.L, f.Next = []api.Sent{part(5, 10, 0)}, 5 })
	add("Next 0", func(f *api.Flow) { f.L, f.Next = []api.Sent{part(5, 10, 0)}, 0 })
	add("an end above 2^60", func(f *api.Flow) { f.L, f.Next = []api.Sent{part(last, 1, 0)}, last+1 })
	return all
}

// P19.1: each field by itself at and beyond the ends of its range.
func TestFine(t *testing.T) {
	for _, vegas := range []bool{false, true} {
		for why, c := range confs(inside) {
			c.Vegas = vegas
			if !flow.Fine(c) {
				t.Errorf("%s: %v is not fine", why, c)
			}
		}
		for why, c := range invalidConfs() {
			c.Vegas = vegas
			if flow.Fine(c) {
				t.Errorf("%s: %v is fine", why, c)
			}
		}
	}
}

// P19.1: fields at the ends of ranges that depend on each other.
func TestFineTogether(t *testing.T) {
	for _, x := range []struct {
		mss, most, least, longest int
		want                      bool
	}{
		{1, 1, 1, 1, true},
		{1460, 1460, longest, longest, true},
		{1460, widest, 1, longest, true},
		{2, 1, 1, 1, false},
		{1, 1, 2, 1, false},
		{1460, 1459, 1, 1, false},
		{1, 1, longest, longest - 1, false},
		{1, 0, 1, 1, false},
		{0, 0, 1, 1, false},
		{1, 1, 0, 0, false},
		{-1, -1, -1, -1, false},
	} {
		c := api.Conf{Mss: x.mss, Most: x.most, Least: x.least, Longest: x.longest, Span: 1, Total: 1}
		if flow.Fine(c) != x.want {
			t.Errorf("%v: %v", c, !x.want)
		}
	}
}

// P19.1: the window of a new flow with 10 * Mss below, equal to and above Most, and each other field.
func TestNew(t *testing.T) {
	for _, x := range []struct{ mss, most, cwnd int }{
		{100, 1001, 1000}, {100, 1000, 1000}, {100, 999, 999}, {100, 100, 100}, {100, 101, 101},
		{1, 10, 10}, {1, 9, 9}, {1, 1, 1}, {1460, widest, 14600}, {1460, 14599, 14599}, {1460, 1460, 1460},
	} {
		for _, span := range []int{1, 77, longest} {
			c := confWith(func(c *api.Conf) { c.Mss, c.Most, c.Span = x.mss, x.most, span })
			f, e := flow.New(c)
			want := api.Flow{Up: true, B: api.Least{Span: span}, W: api.Win{Cwnd: x.cwnd, Thresh: x.most}}
			if e != api.OK || !reflect.DeepEqual(plain(f), want) {
				t.Errorf("%v: %v, %v instead of %v", c, f, e, want)
			}
		}
	}
}

// P19.1: New returns a valid flow, or ErrArg and nothing else.
func TestNewIsValid(t *testing.T) {
	for why, c := range confs(inside) {
		f, e := flow.New(c)
		if e != api.OK || !flow.May(f, c) {
			t.Errorf("%s: %v, %v", why, f, e)
		}
		if g, _ := flow.New(c); !reflect.DeepEqual(f, g) {
			t.Errorf("%s: called again: %v instead of %v", why, g, f)
		}
	}
	for why, c := range invalidConfs() {
		if f, e := flow.New(c); e != api.ErrArg || !reflect.DeepEqual(plain(f), api.Flow{}) {
			t.Errorf("%s: %v, %v", why, f, e)
		}
	}
}

// expectMay checks what May reports, and that it changes nothing (R3).
func expectMay(t *testing.T, why string, f api.Flow, c api.Conf, want bool) {
	t.Helper()
	g := owned(f)
	before := plain(whole(g))
	if flow.May(g, c) != want || flow.May(g, c) != want {
		t.Errorf("%s: %v", why, !want)
	}
	if !reflect.DeepEqual(plain(whole(g)), before) {
		t.Errorf("%s: the flow was changed", why)
	}
}

// P19.1: each part by itself not valid.
func TestMay(t *testing.T) {
	for _, f := range []api.Flow{idle(), busy(part(0, 10, 0)), full(), many(500)} {
		expectMay(t, "a valid flow", f, conf, true)
		for why, bad := range invalidFlows(f) {
			expectMay(t, why, bad, conf, false)
		}
		for why, c := range invalidConfs() {
			expectMay(t, why, f, c, false)
		}
	}
	expectMay(t, "all zero", api.Flow{}, conf, false)
	expectMay(t, "all of both zero", api.Flow{}, api.Conf{}, false)
}

// P19.1: what does not matter for validity.
func TestMayWhatever(t *testing.T) {
	for why, change := range map[string]func(f *api.Flow){
		"not Up":                     func(f *api.Flow) { f.Up = false },
		"Cut":                        func(f *api.Flow) { f.Cut = true },
		"Probed":                     func(f *api.Flow) { f.Probed = true },
		"another Span":               func(f *api.Flow) { f.B.Span = 5 },
		"a round that has ended":     func(f *api.Flow) { f.Round = 0 },
		"a round that ends far off":  func(f *api.Flow) { f.Round = last },
		"a timer without parts":      func(f *api.Flow) { f.L, f.T = nil, api.Timer{Kind: api.Resend, At: 1 << 61} },
		"parts without a timer":      func(f *api.Flow) { f.T = api.Timer{} },
		"more in flight than Cwnd":   func(f *api.Flow) { f.W.Cwnd = 100 },
		"parts longer than Mss":      func(f *api.Flow) { f.L = []api.Sent{part(0, 1350, 0)} },
		"an Rto beyond Longest":      func(f *api.Flow) { f.R.Rto = last },
		"a window as small as Mss":   func(f *api.Flow) { f.W = api.Win{Cwnd: 100, Thresh: 100} },
		"a window as great as Most":  func(f *api.Flow) { f.W = api.Win{Cwnd: 100000, Thresh: 100000} },
		"sixteen great delays":       func(f *api.Flow) { f.Delays = slices.Repeat([]int{1 << 18}, 16) },
		"a part sent in the future":  func(f *api.Flow) { f.L[0].At = last },
		"a part sent very often":     func(f *api.Flow) { f.L[0].Tries = 1000 },
		"a Total beyond the rate's":  func(f *api.Flow) { f.L[0].Total, f.L[0].Last = last, last },
		"empty lists that are there": func(f *api.Flow) { f.L, f.B.L, f.D.L, f.Delays = []api.Sent{}, []api.Point{}, []int{}, []int{} },
	} {
		expectMay(t, why, flowWith(full(), change), conf, true)
	}
}

// P19.1: Next and Round at the ends of their range, and Next beside the end of the parts.
func TestMayPositions(t *testing.T) {
	for _, n := range inside(0, last) {
		expectMay(t, "Next without parts", flowWith(idle(), func(f *api.Flow) { f.Next = n }), conf, true)
		expectMay(t, "Round without parts", flowWith(idle(), func(f *api.Flow) { f.Round = n }), conf, true)
		expectMay(t, "Round with parts", flowWith(full(), func(f *api.Flow) { f.Round = n }), conf, true)
	}
	for _, begin := range []int{0, 1, 700, last - 20} {
		for _, off := range []int{-20, -11, -10, -1, 0, 1, 10} {
			f := busy(part(begin, 10, 0), part(begin+10, 10, 0))
			f.Round = 0
			f.Next += off
			expectMay(t, fmt.Sprintf("parts from %d on, Next off by %d", begin, off), f, conf, off == 0)
		}
	}
}

// P19.1: the window is valid for Mss and Most of the configuration.
func TestMayWindow(t *testing.T) {
	f := idle() // 1000 and 1000
	for _, x := range []struct {
		mss, most int
		want      bool
	}{{1, 1000, true}, {1000, 1000, true}, {1001, 2000, false}, {1, 999, false}, {1, widest, true}} {
		c := confWith(func(c *api.Conf) { c.Mss, c.Most = x.mss, x.most })
		expectMay(t, fmt.Sprint(x), f, c, x.want)
	}
}

// P1: whatever a call is given, it returns.
func TestAnything(t *testing.T) {
	wild := []int{math.MinInt, -1, 0, 1, 1 << 40, 1 << 60, 1 << 62, math.MaxInt}
	for _, n := range wild {
		x := api.Sent{Seq: n, Len: n, Dsn: n, At: n, Tries: n, Came: true, Total: n, Last: n}
		f := api.Flow{
			Up: true, L: []api.Sent{x, x}, Next: n, R: api.Rtt{Srtt: n, Var: n, Rto: n, Shift: n},
			B: api.Least{Span: n, L: []api.Point{{At: n, N: n}}, High: n}, M: api.Marks{Packets: n, Bytes: n, Came: n, Marked: n, Part: n},
			D: api.Rate{Total: n, Last: n, L: []int{n}}, K: api.Rack{At: n, End: n, Took: n, Far: n, Quarters: n},
			W: api.Win{Cwnd: n, Thresh: n}, T: api.Timer{Kind: n, At: n}, Delays: []int{n}, Round: n,
		}
		c := api.Conf{Mss: n, Most: n, Least: n, Longest: n, Span: n, Total: n, Keep: n, Weave: n}
		for _, m := range wild {
			told := api.Told{Got: m, Sacks: []api.Span{{From: m, Upto: n}}, Ace: m, Ce: math.MaxUint32, Now: m, Growth: m}
			for _, g := range []api.Flow{f, full(), {}} {
				for _, d := range []api.Conf{c, conf, {}} {
					expectSame(t, "Send", sends(g, d, m, n, m), sendsBy(g, d, m, n, m))
					expectSame(t, "Again", agains(g, d, m), againsBy(g, d, m))
					expectSame(t, "Heard", hears(g, d, told), hearsBy(g, d, told))
					expectSame(t, "Tick", ticks(g, d, m), ticksBy(g, d, m))
				}
			}
		}
	}
}

// The document's example: with Mss 100 and a window of 1000, ten parts can be sent; the next Send returns ErrFull.
func TestExample(t *testing.T) {
	f, _ := flow.New(conf)
	for i := range 10 {
		a := expectSend(t, "one of ten", f, conf, 100*i, 100, 5, api.OK)
		f = a.flow
	}
	if len(f.L) != 10 || sent.Flight(f.L) != 1000 || f.Next != 1000 {
		t.Errorf("%v", f)
	}
	for _, n := range []int{1, 100} {
		expectSend(t, "the next one", f, conf, 1000, n, 5, api.ErrFull)
	}
}
