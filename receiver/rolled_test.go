package receiver_test

import (
	"fmt"
	"testing"

	"fourinhand/api"
	"fourinhand/receiver"
)

// dice returns a function that returns numbers from 0 on below n, which depend on the seed only.
func dice(seed int) func(n int) int {
	state := uint64(seed)*2862933555777941757 + 3037000493
	return func(n int) int {
		state = state*6364136223846793005 + 1442695040888963407
		return int(state>>24) % n // the lower bits repeat soon
	}
}

// rolledSpans returns spans within the range from low to high, which may begin at low, or end at high.
func rolledSpans(roll func(n int) int, low, high int) []api.Span {
	var l []api.Span
	at := low + roll(2)*roll(50)
	for range roll(6) {
		s := api.Span{From: at, Upto: at + 1 + roll(40)}
		if roll(10) == 0 {
			s.Upto = high
		}
		if s.Upto > high || s.Upto <= s.From {
			break
		}
		l = append(l, s)
		at = s.Upto + 1 + roll(60)
	}
	return l
}

// rolledReceiver returns a valid receiver, which need not be one that any calls lead to.
func rolledReceiver(roll func(n int) int) api.Receiver {
	one := func(l ...int) int { return l[roll(len(l))] }
	base := one(0, 1, roll(1000), turn/2-roll(20), turn-roll(200), turn, 5*turn+roll(1000), furthest-roll(200), furthest)
	cap := one(0, 1, roll(300), roll(300), 65535, 65536)
	got := rolledSpans(roll, base, min(base+min(cap, 300), furthest))
	end := base
	if n := len(got); n > 0 {
		end = got[n-1].Upto
	}
	r := of(buffer(base, cap, one(-1, -1, end, end+roll(20), end+1<<40), got))
	for i := range r.S {
		s := &r.S[i]
		low := one(0, 0, turn/2-roll(20), turn-roll(100), turn+roll(100), 3*turn, 1<<62-roll(200))
		s.Got = rolledSpans(roll, low, 1<<62)
		if low > 0 && roll(3) > 0 { // all before is there
			if len(s.Got) == 0 {
				s.Got = list(0, low)
			}
			s.Got[0].From = 0
		}
		if roll(30) == 0 {
			s.Got = single(1000, one(0, 1, turn))
		}
		s.M = api.Marks{Packets: one(0, roll(100), latest-roll(2)), Bytes: one(0, 1<<24-roll(2), latest-roll(20)), Came: roll(10), Part: roll(1025)}
		s.M.Marked = roll(s.M.Came + 1)
	}
	return r
}

// rolledData returns a segment near what r lacks, or of another form.
func rolledData(roll func(n int) int, r api.Receiver) api.Seg {
	i := roll(4)
	s := r.S[i]
	seq, dsn := missingBy(s.Got), cumulativeBy(r.W)
	if l := r.W.Got; len(l) > 0 && roll(2) == 0 {
		dsn = l[roll(len(l))].Upto
	}
	seq, dsn = max(0, seq-10+roll(30)), max(0, dsn-10+roll(30))
	switch roll(8) {
	case 0:
		dsn = max(0, edgeBy(r.W)-roll(20))
	case 1:
		dsn += turn/2 - roll(20)
	case 2:
		seq += turn/2 - roll(20)
	}
	x := data(i, seq, dsn, []int{1, roll(20) + 1, roll(60) + 1, 1460}[roll(4)])
	if roll(2) == 0 {
		for i := range x.B {
			x.B[i] = byte(roll(256))
		}
	}
	if roll(3) == 0 {
		x = fin(i, seq, dsn)
		if roll(3) > 0 && r.W.End >= 0 {
			x.Dsn = lowBy(r.W.End)
		}
	}
	switch roll(40) {
	case 0:
		x.Kind = roll(5)
	case 1:
		x.Sub += 4 * (roll(3) - 1)
	case 2:
		x.Fin = !x.Fin
	case 3:
		x.Win = 65535 + roll(2)
	}
	return x
}

// P21.2 to P21.5: receivers from all over their range, by the definition; a valid one remains valid.
func TestRolled(t *testing.T) {
	roll := dice(21)
	type outcome struct {
		fin bool
		e   api.Errno
	}
	count := map[outcome]int{}
	for i := range 3000 {
		r := rolledReceiver(roll)
		if !isValid(r) || !receiver.May(r) {
			t.Fatalf("%d: not valid", i)
		}
		x := rolledData(roll, r)
		marked, sub, n := roll(2) == 0, roll(4), roll(80)-1
		why := fmt.Sprint("roll ", i)
		a := expectTake(t, why, r, x, marked, takesBy(r, x, marked).e)
		count[outcome{x.Fin, a.e}]++
		expectTold(t, why, r, sub, uint32(i), tellsBy(r, sub, uint32(i)).seg, api.OK)
		want := readsBy(r, n)
		expectRead(t, why, r, n, want.b, want.e)
		if a.e == api.OK { // it remains as it is when the same comes again
			again := expectTake(t, why+" again", a.receiver, x, false, takesBy(a.receiver, x, false).e)
			if x.Kind == api.Data && again.e == api.OK && missingBy(a.receiver.S[x.Sub].Got) == missingBy(r.S[x.Sub].Got) && cumulativeBy(a.receiver.W) == cumulativeBy(r.W) {
				expectSame(t, why+" again", again, a)
			}
		}
		if t.Failed() {
			t.Fatalf("seen with %+v", x)
		}
	}
	for _, o := range []outcome{
		{false, api.OK}, {false, api.ErrArg}, {false, api.ErrForm}, {false, api.ErrFull}, {false, api.ErrOver},
		{true, api.OK}, {true, api.ErrArg}, {true, api.ErrForm}, {true, api.ErrFull}, {true, api.ErrOver},
	} {
		if count[o] < 5 {
			t.Errorf("%v only %d times", o, count[o])
		}
	}
}
