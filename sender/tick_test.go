package sender_test

import (
	"fmt"
	"testing"

	"fourinhand/api"
	"fourinhand/flow"
)

// due is a flow with these parts of which all are taken for lost at 5000, after it has waited twice as long so often.
func due(shift int, l ...api.Sent) api.Flow {
	f := busy(l...)
	f.R.Shift = shift
	f.T = api.Timer{Kind: api.Resend, At: 5000}
	return f
}

// ticked returns f as flow.Tick leaves it.
func ticked(f api.Flow, now int) api.Flow {
	f, _, e := flow.Tick(f, conf, now)
	return sure(f, e)
}

// P20.6: one or several subflows are due, or none; those that are not Up are left alone.
func TestTick(t *testing.T) {
	for _, x := range []struct {
		why  string
		due  [4]bool
		down [4]bool
	}{
		{"none", [4]bool{}, [4]bool{}},
		{"the first one", [4]bool{true}, [4]bool{}},
		{"the last one", [4]bool{3: true}, [4]bool{}},
		{"two", [4]bool{1: true, 2: true}, [4]bool{}},
		{"all", [4]bool{true, true, true, true}, [4]bool{}},
		{"all, two of which are not Up", [4]bool{true, true, true, true}, [4]bool{true, false, true}},
		{"one that is not Up", [4]bool{1: true}, [4]bool{1: true}},
		{"all, none of which is Up", [4]bool{true, true, true, true}, [4]bool{true, true, true, true}},
	} {
		for _, now := range []int{0, 4999, 5000, 5001, last} {
			s := past(5000, 600)
			for i := range 4 {
				s.F[i] = due(i, part(0, 100, 5100+i), part(100, 10, 5400))
				s.F[i].T.Kind = api.Probe + i%2
				if !x.due[i] {
					s.F[i].T = api.Timer{}
				}
				s.F[i].Up = !x.down[i]
			}
			s.Got = 5300
			want := with(s, func(s *api.Sender) {
				for i := range 4 {
					if x.due[i] && !x.down[i] {
						s.F[i] = ticked(s.F[i], now)
					}
				}
			})
			why := fmt.Sprintf("%s at %d", x.why, now)
			a := expectTick(t, why, s, conf, now, api.OK)
			expectSame(t, why, a, answer{sender: want}) // nothing is released
			if changed := a.sender.F[0].W != s.F[0].W || a.sender.F[0].Probed != s.F[0].Probed; changed != (x.due[0] && !x.down[0] && now >= 5000) {
				t.Errorf("%s: changed %v", why, changed)
			}
		}
	}
}

// P20.6: a subflow leaves once it has waited twice as long eight times.
func TestTickLeaves(t *testing.T) {
	for shift, leaves := range map[int]bool{0: false, 6: false, 7: true, 8: true, 15: true, 16: true} {
		for i := range 4 {
			s := past(5000, 600, idle(), idle(), idle(), idle())
			s.F[i] = due(shift, part(0, 100, 5100), part(100, 100, 5300))
			s.Got = 5120
			why := fmt.Sprintf("Shift %d on subflow %d", shift, i)
			a := expectTick(t, why, s, conf, 5000, api.OK)
			want := with(s, func(s *api.Sender) { s.F[i] = ticked(s.F[i], 5000) })
			if leaves {
				want.F[i].Up, want.F[i].L, want.F[i].T = false, nil, api.Timer{}
				want.Back = []api.Span{{From: 5120, Upto: 5200}, {From: 5300, Upto: 5400}}
				want.K.Base, want.K.B = 5120, text(5120, 480)
			}
			expectSame(t, why, a, answer{sender: want})
		}
	}
}

// P20.6: Shift counts also where nothing is due, and whether or not there are parts.
func TestTickShift(t *testing.T) {
	for shift, leaves := range map[int]bool{7: false, 8: true, 16: true} {
		for why, f := range map[string]api.Flow{"a timer that is not due": due(shift, part(0, 100, 5100)), "no parts": idle()} {
			s := past(5000, 600, f, idle())
			s.F[0].R.Shift = shift
			a := expectTick(t, why, s, conf, 4999, api.OK)
			expectEqual(t, fmt.Sprintf("%s, Shift %d: Up", why, shift), a.sender.F[0].Up, !leaves)
		}
	}
	s := past(5000, 600, due(8, part(0, 100, 5100)), idle())
	s.F[0].T.Kind = api.Probe
	s.F[0].R = api.Rtt{Has: true, Srtt: 10, Rto: 20, Shift: 7}
	a := expectTick(t, "a probe does not count", s, conf, 5000, api.OK)
	expectEqual(t, "a probe does not count: Up", a.sender.F[0].Up, true)
}

// P20.6: the last subflow that is Up stays.
func TestTickLast(t *testing.T) {
	bad := due(9, part(0, 100, 5100))
	for _, x := range []struct {
		why   string
		flows []api.Flow
		up    [4]bool // then
	}{
		{"alone", []api.Flow{bad, down(idle()), down(idle()), down(idle())}, [4]bool{true}},
		{"alone, the last one", []api.Flow{down(idle()), down(bad), down(idle()), bad}, [4]bool{3: true}},
		{"two", []api.Flow{bad, bad, down(idle()), down(idle())}, [4]bool{1: true}},
		{"all", []api.Flow{bad, bad, bad, bad}, [4]bool{3: true}},
		{"all but one", []api.Flow{bad, idle(), bad, bad}, [4]bool{1: true}},
		{"all but two", []api.Flow{bad, idle(), idle(), bad}, [4]bool{1: true, 2: true}},
		{"all that are Up", []api.Flow{down(bad), bad, down(idle()), bad}, [4]bool{3: true}},
		{"those that are not Up", []api.Flow{idle(), down(bad), down(bad), idle()}, [4]bool{0: true, 3: true}},
	} {
		s := past(5000, 600, x.flows...)
		a := expectTick(t, x.why, s, conf, 5000, api.OK)
		for i, up := range x.up {
			expectEqual(t, fmt.Sprintf("%s: %d is Up", x.why, i), a.sender.F[i].Up, up)
		}
	}
}

// P20.6: a subflow that cannot leave, because Back is full, stays; the others go on.
func TestTickFull(t *testing.T) {
	s := wide(1000)
	s.F[0] = due(7, part(0, 1, 7500), part(1, 3, 5000))
	s.F[1] = due(7, part(0, 3, 5000))
	s.F[2] = due(7, part(0, 1, 7600))
	s.F[3] = due(3, part(0, 1, 7600))
	a := expectTick(t, "a full Back", s, wideConf, 5000, api.OK)
	want := with(s, func(s *api.Sender) {
		for i := range 4 {
			s.F[i] = ticked(s.F[i], 5000)
		}
		s.F[1].Up, s.F[1].L, s.F[1].T = false, nil, api.Timer{}
		s.Back = append([]api.Span{{From: 5000, Upto: 5003}}, s.Back[2:]...)
		// Now there is space for one more span.
		s.F[2].Up, s.F[2].L, s.F[2].T = false, nil, api.Timer{}
		s.Back = append(s.Back, api.Span{From: 7600, Upto: 7601})
	})
	expectSame(t, "a full Back", a, answer{sender: want})
	expectEqual(t, "a full Back", len(a.sender.Back), 1000)
	expectEqual(t, "what could not leave", a.sender.F[0].L, []api.Sent{lost(part(0, 1, 7500)), lost(part(1, 3, 5000))})
}

// P20.6: what is due is sent again, on another subflow once its own one has left.
func TestTickAndPull(t *testing.T) {
	s := blank(5000, 150)
	s = expectPulled(t, "once", s, conf, pulled{0, 5000, 100, false})
	s = expectJoin(t, "another one", s, conf, 2, api.OK).sender
	for i := range 8 {
		s = expectTick(t, "too early", s, conf, s.F[0].T.At-1, api.OK).sender
		expectEqual(t, "Up", s.F[0].Up, true)
		now := s.F[0].T.At
		s = expectTick(t, "in time", s, conf, now, api.OK).sender
		if i < 7 {
			a := expectPull(t, "again", s, conf, now, api.OK)
			expectEqual(t, "again", a.seg.Sub, 0)
			s = a.sender
		}
	}
	expectEqual(t, "Up", s.F[0].Up, false)
	expectEqual(t, "Back", s.Back, []api.Span{{From: 5000, Upto: 5100}})
	s = expectPulled(t, "elsewhere", s, conf, pulled{2, 5000, 100, false})
	s = expectPulled(t, "what is new", s, conf, pulled{2, 5100, 50, false})
	expectEqual(t, "Back", s.Back, nil)
}
