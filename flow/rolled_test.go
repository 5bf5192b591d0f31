package flow_test

import (
	"fmt"
	"slices"
	"testing"

	"fourinhand/api"
	"fourinhand/flow"
)

// dice returns a function that returns numbers from 0 on below n, which depend on the seed only.
func dice(seed int) func(n int) int {
	state := uint64(seed)*2862933555777941757 + 3037000493
	return func(n int) int {
		state = state*6364136223846793005 + 1442695040888963407
		return int(state>>24) % n // the lower bits repeat soon
	}
}

// rolledConf returns a valid configuration with numbers from all over their ranges.
func rolledConf(roll func(n int) int) api.Conf {
	one := func(l ...int) int { return l[roll(len(l))] }
	c := api.Conf{
		Mss: one(1, 2, 100, 1459, 1460), Longest: one(1, 1000, 1000000, longest), Span: one(1, 1000, 1000000, longest),
		Vegas: roll(2) == 0, Total: one(1, greatest), Keep: one(0, 65536), Weave: one(0, 65536),
	}
	c.Most = max(c.Mss, one(1, 1000, 5000, 100000, widest))
	c.Least = min(c.Longest, one(1, 1000, longest))
	return c
}

// someTime returns a time, which is often at an end of its range, or near to others.
func someTime(roll func(n int) int) int {
	return []int{0, 1, roll(3000), roll(3000), roll(3000), longest - 1, longest, longest + 1, last - 1, last}[roll(10)]
}

// rolledParts returns valid parts, from one of several positions on.
func rolledParts(roll func(n int) int) []api.Sent {
	n := []int{0, 1, 2, 3, 5, 10, 20, 500}[roll(8)]
	l := make([]api.Sent, 0, n)
	next := []int{0, 1, roll(5000), last - 500*1460}[roll(4)]
	for range n {
		x := api.Sent{Seq: next, Len: []int{1, 1460, 1 + roll(200)}[roll(3)], Dsn: someTime(roll), At: someTime(roll), Tries: []int{1, 1, 1, 2, 999, 1000}[roll(6)]}
		x.Total, x.Last = someTime(roll), someTime(roll)
		state := roll(4)
		x.Came, x.Lost = state == 1, state == 2
		next += x.Len
		l = append(l, x)
	}
	return l
}

// rolledPoints returns points of a windowed minimum.
func rolledPoints(roll func(n int) int) []api.Point {
	var l []api.Point
	var at, n []int
	for range roll(5) {
		at, n = append(at, someTime(roll)), append(n, someTime(roll))
	}
	slices.Sort(at)
	slices.Sort(n)
	for i := range at {
		if i == 0 || n[i] > n[i-1] {
			l = append(l, api.Point{At: at[i], N: n[i]})
		}
	}
	return l
}

// rolledFlow returns a flow that is valid for c, but need not be one that any calls lead to.
func rolledFlow(roll func(n int) int, c api.Conf) api.Flow {
	one := func(l ...int) int { return l[roll(len(l))] }
	f := api.Flow{Up: roll(8) > 0, L: rolledParts(roll), Cut: roll(2) == 0, Probed: roll(2) == 0}
	f.Next = someTime(roll)
	if n := len(f.L); n > 0 {
		f.Next = f.L[n-1].Seq + f.L[n-1].Len
	}
	f.Round = one(0, f.Next, max(0, f.Next-roll(1000)), someTime(roll))
	f.R = api.Rtt{Rto: someTime(roll), Shift: roll(17)}
	if roll(3) > 0 {
		f.R.Has, f.R.Srtt, f.R.Var = true, someTime(roll), someTime(roll)
	}
	f.B = api.Least{Span: one(1, 1000, longest), L: rolledPoints(roll), High: roll(8)}
	f.M = api.Marks{Packets: someTime(roll), Bytes: someTime(roll), Came: someTime(roll), Part: one(0, 1, 512, 1024)}
	f.M.Marked = one(0, f.M.Came, f.M.Came/2)
	f.D = api.Rate{Total: someTime(roll), Last: someTime(roll)}
	for range roll(11) {
		f.D.L = append(f.D.L, someTime(roll))
	}
	f.K = api.Rack{At: someTime(roll), End: one(0, f.Next, 1<<61), Took: someTime(roll), Far: one(0, f.Next, 1<<61), Mixed: roll(2) == 0, Quarters: roll(21)}
	f.W = api.Win{Cwnd: one(c.Mss, c.Most, c.Mss+roll(c.Most-c.Mss+1)), Thresh: one(c.Mss, c.Most, c.Mss+roll(c.Most-c.Mss+1))}
	if kind := roll(3); kind > 0 {
		f.T = api.Timer{Kind: kind, At: one(someTime(roll), 1<<61)}
	}
	for range roll(17) {
		f.Delays = append(f.Delays, one(0, roll(1000), 1<<18))
	}
	return f
}

// rolledTold returns what may be told of f, or may not.
func rolledTold(roll func(n int) int, f api.Flow) api.Told {
	told := api.Told{Ace: (f.M.Packets + roll(3)) % 8, Ce: uint32((f.M.Bytes + roll(300)) % (1 << 24)), Now: someTime(roll)}
	told.Growth = []int{0, 1, roll(200), greatest}[roll(4)]
	var ends []int
	for _, x := range f.L {
		ends = append(ends, x.Seq)
	}
	ends = append(ends, f.Next)
	told.Got = ends[roll(len(ends))]
	for i := 1; i < len(ends); i++ {
		if roll(3) == 0 && (len(told.Sacks) == 0 || told.Sacks[len(told.Sacks)-1].Upto < ends[i-1]) {
			told.Sacks = append(told.Sacks, api.Span{From: ends[i-1], Upto: ends[i]})
		}
	}
	switch roll(40) {
	case 0:
		told.Got += []int{-1, 1, 2000}[roll(3)]
	case 1:
		told.Sacks = append(told.Sacks, api.Span{From: f.Next + 1, Upto: f.Next + 2})
	case 2:
		told.Sacks = append(told.Sacks, api.Span{})
	}
	return told
}

// P19.2 to P19.6: flows from all over their range, by the definition; a valid one remains valid.
func TestRolled(t *testing.T) {
	roll := dice(19)
	errors := map[api.Errno]int{}
	for i := range 3000 {
		c := rolledConf(roll)
		f := rolledFlow(roll, c)
		if !flow.May(f, c) {
			t.Fatalf("%d: %+v is not valid", i, f)
		}
		dsn, n, now := someTime(roll), 1+roll(c.Mss), someTime(roll)
		why := fmt.Sprint("roll ", i)
		errors[expectSend(t, why, f, c, dsn, n, now, sendsBy(f, c, dsn, n, now).e).e]++
		expectAgain(t, why, f, c, now, againsBy(f, c, now).e)
		told := rolledTold(roll, f)
		errors[expectHeard(t, why, f, c, told, hearsBy(f, c, told).e).e]++
		expectTick(t, why, f, c, now, ticksBy(f, c, now).kind, api.OK)
		if t.Failed() {
			t.Fatalf("%+v\n%+v\n%+v", c, f, told)
		}
	}
	for _, e := range []api.Errno{api.OK, api.ErrArg, api.ErrNone, api.ErrFull, api.ErrOver} {
		if errors[e] < 20 {
			t.Errorf("error %d only %d times", e, errors[e])
		}
	}
}

// journey is a flow, and what is between it and the other end.
type journey struct {
	t       *testing.T
	roll    func(n int) int
	c       api.Conf
	f       api.Flow
	now     int
	dsn     int
	onWay   []api.Sent   // what was sent and is not at the other end yet
	arrived map[int]bool // each byte, by its position
	packets int          // how many were marked
	bytes   int          // with so many bytes
	backs   []api.Told   // acknowledgements that have not come
}

// told returns what the other end tells.
func (j *journey) told() api.Told {
	told := api.Told{Ace: j.packets % 8, Ce: uint32(j.bytes % (1 << 24)), Growth: j.roll(150)}
	for j.arrived[told.Got] {
		told.Got++
	}
	for n := told.Got; n < j.f.Next; n++ {
		switch k := len(told.Sacks); {
		case !j.arrived[n]:
		case k > 0 && told.Sacks[k-1].Upto == n:
			told.Sacks[k-1].Upto++
		case k < 3:
			told.Sacks = append(told.Sacks, api.Span{From: n, Upto: n + 1})
		}
	}
	return told
}

// send sends something new, if the window lets it.
func (j *journey) send() {
	n := 1 + j.roll(j.c.Mss)
	a := expectSend(j.t, "send", j.f, j.c, j.dsn, n, j.now, sendsBy(j.f, j.c, j.dsn, n, j.now).e)
	if a.e == api.OK {
		j.f, j.dsn = a.flow, j.dsn+n
		j.onWay = append(j.onWay, a.part)
	}
}

// again sends something lost, if there is such a thing.
func (j *journey) again() {
	a := expectAgain(j.t, "again", j.f, j.c, j.now, againsBy(j.f, j.c, j.now).e)
	if a.e == api.OK {
		j.f = a.flow
		j.onWay = append(j.onWay, a.part)
	}
}

// arrive lets some packet arrive, and be answered.
func (j *journey) arrive() {
	if len(j.onWay) == 0 {
		return
	}
	i := min(j.roll(3), j.roll(len(j.onWay)))
	x := j.onWay[i]
	j.onWay = slices.Delete(j.onWay, i, i+1)
	for n := range x.Len {
		j.arrived[x.Seq+n] = true
	}
	if j.roll(12) == 0 {
		j.packets, j.bytes = j.packets+1, j.bytes+x.Len
	}
	j.backs = append(j.backs, j.told())
}

// hear lets some acknowledgement come.
func (j *journey) hear() {
	if len(j.backs) == 0 {
		return
	}
	i := min(j.roll(2), j.roll(len(j.backs)))
	told := j.backs[i]
	j.backs = slices.Delete(j.backs, i, i+1)
	told.Now = j.now
	a := expectHeard(j.t, "hear", j.f, j.c, told, hearsBy(j.f, j.c, told).e)
	if a.e == api.OK {
		j.f = a.flow
	}
}

// tick lets time go by.
func (j *journey) tick(n int) {
	j.now += n
	a := expectTick(j.t, "tick", j.f, j.c, j.now, ticksBy(j.f, j.c, j.now).kind, api.OK)
	j.f = a.flow
}

// P19.6: on journeys with losses, delays and marks a flow remains valid, and what is in flight within its window; in the end all arrives.
func TestJourneys(t *testing.T) {
	for seed := range 20 {
		roll := dice(seed)
		c := confWith(func(c *api.Conf) {
			c.Vegas = seed%2 == 0
			c.Mss = []int{1, 40, 100}[roll(3)]
			c.Most = c.Mss * []int{1, 3, 100}[roll(3)]
		})
		f, _ := flow.New(c)
		j := &journey{t: t, roll: roll, c: c, f: f, arrived: map[int]bool{}}
		for range 400 {
			switch roll(12) {
			case 0, 1, 2:
				j.send()
			case 3, 4:
				j.again()
			case 5, 6, 7:
				j.arrive()
			case 8, 9:
				j.hear()
			case 10:
				j.tick(roll(2000))
			case 11: // something is lost on the way
				if len(j.onWay) > 0 && roll(3) == 0 {
					j.onWay = j.onWay[1:]
				}
			}
		}
		for range 1000 { // now nothing is lost any more
			if len(j.f.L) == 0 {
				break
			}
			j.again()
			j.arrive()
			j.tick(5000)
			j.backs = []api.Told{j.told()}
			j.hear()
		}
		if len(j.f.L) > 0 || j.f.D.Total != j.dsn || j.dsn == 0 || t.Failed() {
			t.Fatalf("seed %d: %d of %d bytes have come: %+v", seed, j.f.D.Total, j.dsn, j.f)
		}
	}
}

// P19.6: in each answer lists are new memory, also those that the call does not change.
func TestOwnLists(t *testing.T) {
	f := full()
	for why, a := range map[string]answer{
		"Send":           sends(f, conf, 7, 10, 9000),
		"Again":          agains(f, conf, 9000),
		"Heard":          hears(f, conf, api.Told{Got: 1100, Now: 9000}),
		"Heard nothing":  hears(f, conf, api.Told{Got: 1000, Now: 9000}),
		"Tick":           ticks(f, conf, 30000),
		"Tick too early": ticks(f, conf, 0),
	} {
		if a.e != api.OK || &a.flow.L[0] == &f.L[0] || &a.flow.B.L[0] == &f.B.L[0] || &a.flow.D.L[0] == &f.D.L[0] || &a.flow.Delays[0] == &f.Delays[0] {
			t.Errorf("%s: a list of the argument", why)
		}
	}
}
