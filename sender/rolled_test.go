package sender_test

import (
	"fmt"
	"testing"

	"fourinhand/api"
	"fourinhand/keep"
	"fourinhand/sender"
)

// dice returns a function that returns numbers from 0 on below n, which depend on the seed only.
func dice(seed int) func(n int) int {
	state := uint64(seed)*2862933555777941757 + 3037000493
	return func(n int) int {
		state = state*6364136223846793005 + 1442695040888963407
		return int(state>>24) % n // the lower bits repeat soon
	}
}

// rolledConf returns a valid configuration with numbers from all over their ranges.
func rolledConf(roll func(n int) int) api.Conf {
	one := func(l ...int) int { return l[roll(len(l))] }
	c := api.Conf{
		Mss: one(1, 2, 50, 100, 100, 1460), Least: one(1, 1000), Longest: one(1000, 1000000, 1<<40), Span: one(1, 1000000, 1<<40),
		Vegas: roll(2) == 0, Total: one(1, 8, 1<<20), Keep: one(0, 10, 1000, 1000, 5000, 65536), Weave: one(0, 1000, 65536),
	}
	c.Most = max(c.Mss, one(1, 1000, 5000, 100000, 1<<30))
	return c
}

// rolledPart returns a part, of which Seq is 0, or none.
func rolledPart(roll func(n int) int, s api.Sender) (api.Sent, bool) {
	x := api.Sent{Len: []int{1, 1 + roll(100), 100, 1460}[roll(4)], At: roll(9000), Tries: []int{1, 1, 1, 2, 999, 1000}[roll(6)], Total: roll(9000), Last: roll(9000)}
	state := roll(4)
	x.Came, x.Lost = state == 1, state == 2
	low, high := s.K.Base, sentUpto(s)
	if x.Came && roll(2) == 0 {
		low = 0
	}
	x.Len = min(x.Len, high-low)
	high = min(high-x.Len, last)
	if x.Len < 1 || low > high {
		return x, false
	}
	x.Dsn = low + roll(high-low+1)
	return x, true
}

// rolledFlow returns a flow that is valid for c and in s.
func rolledFlow(roll func(n int) int, s api.Sender, c api.Conf) api.Flow {
	one := func(l ...int) int { return l[roll(len(l))] }
	f := api.Flow{Up: roll(3) > 0, Next: one(0, 0, roll(5000), 1<<32-roll(1000), 7<<32+roll(1000), last-roll(4000)), Cut: roll(2) == 0, Probed: roll(2) == 0}
	for range one(0, 0, 0, 1, 2, 3, 5, 10) {
		if x, ok := rolledPart(roll, s); ok && f.Next+x.Len <= last {
			x.Seq = f.Next
			f.L = append(f.L, x)
			f.Next += x.Len
		}
	}
	f.Round = one(0, f.Next, max(0, f.Next-roll(1000)))
	f.R = api.Rtt{Rto: one(0, 1000, 1000000), Shift: one(0, 0, 7, 8, 16)}
	if roll(4) > 0 {
		f.R.Has, f.R.Srtt, f.R.Var = true, one(0, roll(1000), roll(20000), roll(1000), 1<<40, last), one(0, roll(200), roll(1000), 1<<40, last)
	}
	f.B.Span = c.Span
	if roll(3) > 0 {
		f.B.L = []api.Point{{At: roll(4000), N: 1 + roll(1000)}, {At: 4000 + roll(4000), N: 1002 + roll(1000)}}
	}
	f.M = api.Marks{Packets: roll(100), Bytes: roll(1 << 30), Came: one(0, roll(3000), last), Part: roll(1025)}
	f.M.Marked = roll(f.M.Came + 1)
	f.D = api.Rate{Total: one(roll(3000), last), Last: roll(20000), L: []int{roll(3000)}}
	f.K = api.Rack{At: roll(9000), End: f.Next, Took: roll(9000), Far: f.Next, Mixed: roll(2) == 0, Quarters: roll(21)}
	f.W = api.Win{Cwnd: c.Mss + roll(min(3000, c.Most-c.Mss+1)), Thresh: one(c.Mss, c.Most)}
	if kind := roll(3); kind > 0 {
		f.T = api.Timer{Kind: kind, At: roll(20000)}
	}
	for i := range roll(7) {
		f.Delays = append(f.Delays, one(i, i, 10*i, 100-i))
	}
	return f
}

// rolledSender returns a sender that is valid for c, but need not be one that any calls lead to.
func rolledSender(roll func(n int) int, c api.Conf) api.Sender {
	one := func(l ...int) int { return l[roll(len(l))] }
	n := min(c.Keep, one(0, 1, roll(300), roll(300), roll(3000), roll(3000), 3000+62536*(roll(10)/9)))
	base := one(0, 1, 5000, 1<<32-100, 1<<32, 5<<32+roll(1000), last-1000, last, last+1, 1<<61-n)
	s := api.Sender{K: api.Keep{Base: base, B: text(base, n), Cap: c.Keep, Shut: roll(2) == 0}, Waits: roll(2) == 0}
	s.Next = base + one(0, n, n, roll(n+1))
	s.Fin = s.K.Shut && s.Next == keep.End(s.K) && roll(2) == 0
	upto := sentUpto(s)
	s.Got = base + one(0, upto-base, roll(upto-base+1))
	s.Edge = min(last, one(0, s.Next, s.Next+roll(500), base+n, base+n+1, last))
	for at := base; at < upto; {
		x := api.Span{From: at + roll(200), Upto: at + 200 + one(1, 100, roll(300))}
		if roll(3) == 0 && x.Upto <= upto {
			s.Back = append(s.Back, x)
		}
		at = x.Upto + 1 + roll(2000)
	}
	if roll(3) == 0 && (len(s.Back) == 0 || s.Back[len(s.Back)-1].Upto < upto-1) && upto > base {
		s.Back = append(s.Back, api.Span{From: upto - 1, Upto: upto})
	}
	for i := range s.F {
		s.F[i] = rolledFlow(roll, s, c)
	}
	return s
}

// rolledAck returns an acknowledgement of what s has sent, or of what it has not.
func rolledAck(roll func(n int) int, s api.Sender) api.Seg {
	i := roll(4)
	f := s.F[i]
	x := api.Seg{Kind: api.Ack, Sub: i, Ecn: true, Win: []int{0, roll(2000), 65535}[roll(3)], Ace: (f.M.Packets + roll(3)) % 8, Ce: uint32((f.M.Bytes + roll(300)) % (1 << 24))}
	got := f.Next
	for _, p := range f.L {
		if roll(3) == 0 {
			got = min(got, p.Seq)
		}
		if n := len(x.Sacks); roll(3) == 0 && (n == 0 || x.Sacks[n-1].Upto != uint32(p.Seq)) {
			x.Sacks = append(x.Sacks, api.Pair{From: uint32(p.Seq), Upto: uint32(p.Seq + p.Len)})
		}
	}
	x.Got = uint32(got)
	x.Dgot = uint32(s.K.Base + roll(sentUpto(s)-s.K.Base+1))
	switch roll(30) {
	case 0:
		x.Kind = roll(5)
	case 1:
		x.Sub += 4 * (roll(3) - 1)
	case 2:
		x.Win += 65536 * (roll(3) - 1)
	case 3:
		x.Dgot = uint32(sentUpto(s) + 1 + roll(100))
	case 4, 7:
		x.Got += uint32(1 + roll(3000))
	case 5:
		x.Sacks = append(x.Sacks, api.Pair{From: uint32(f.Next), Upto: uint32(f.Next - roll(100))})
	case 6:
		x.Ce = 1<<24 - 1 + uint32(roll(3))
	}
	return x
}

// P20.2 to P20.7: senders from all over their range, by the definition; a valid one remains valid.
func TestRolled(t *testing.T) {
	roll := dice(20)
	type outcome struct {
		call string
		e    api.Errno
	}
	count := map[outcome]int{}
	for i := range 2500 {
		c := rolledConf(roll)
		s := rolledSender(roll, c)
		if !isValid(s, c) || !sender.May(s, c) {
			t.Fatalf("%d: %+v is not valid", i, s)
		}
		now, b, k, m := roll(20000), text(0, []int{0, 3, 2000}[roll(3)]), roll(6)-1, roll(6)-1
		x := rolledAck(roll, s)
		why := fmt.Sprint("roll ", i)
		w := writesBy(s, c, b)
		count[outcome{"write", expectWrite(t, why, s, c, b, w.n, w.e).e}]++
		expectShut(t, why, s, c, api.OK)
		count[outcome{"join", expectJoin(t, why, s, c, k, joinsBy(s, c, k).e).e}]++
		count[outcome{"leave", expectLeave(t, why, s, c, m, leavesBy(s, c, m).e).e}]++
		count[outcome{"pull", expectPull(t, why, s, c, now, pullsBy(s, c, now).e).e}]++
		count[outcome{"hear", expectHear(t, why, s, c, x, now, hearsBy(s, c, x, now).e).e}]++
		expectTick(t, why, s, c, now, api.OK)
		if t.Failed() {
			t.Fatalf("%+v\n%+v\n%+v", c, s, x)
		}
	}
	for _, o := range []outcome{
		{"write", api.OK}, {"write", api.ErrDone}, {"join", api.OK}, {"join", api.ErrNone}, {"join", api.ErrFull}, {"join", api.ErrDone},
		{"leave", api.OK}, {"leave", api.ErrNone}, {"pull", api.OK}, {"pull", api.ErrNone},
		{"hear", api.OK}, {"hear", api.ErrForm}, {"hear", api.ErrNone}, {"hear", api.ErrOver},
	} {
		if count[o] < 50 {
			t.Errorf("%v only %d times", o, count[o])
		}
	}
}
