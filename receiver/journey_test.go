package receiver_test

import (
	"bytes"
	"testing"

	"fourinhand/api"
	"fourinhand/receiver"
	"fourinhand/sender"
)

// journey is a receiver, what is on its way to it, and what it should know.
type journey struct {
	t     *testing.T
	roll  func(n int) int
	r     api.Receiver
	total int          // how many bytes the stream has
	came  map[int]bool // each position of the stream that has come; also the end
	onWay []api.Seg
	read  []byte
	subs  [4]struct {
		first, next    int // all before first is there from the beginning; next is behind what was sent
		came           map[int]bool
		packets, bytes int // how many were marked
	}
}

// start returns a journey that begins, on subflows of which the positions are soon beyond 2^32 if far is set.
func start(t *testing.T, seed, room, total int, far bool) *journey {
	j := &journey{t: t, roll: dice(seed), r: sure(receiver.New(room)), total: total, came: map[int]bool{}}
	for i := range j.subs {
		j.subs[i].came = map[int]bool{}
		if far {
			j.subs[i].first, j.subs[i].next = turn-500, turn-500
			j.r.S[i].Got = list(0, turn-500)
		}
	}
	return j
}

// send sends bytes from a position on, on any subflow, or the end.
func (j *journey) send(from, n int) {
	i := j.roll(4)
	s := &j.subs[i]
	n = min(n, j.total-from)
	if n <= 0 {
		n = 1
		j.onWay = append(j.onWay, fin(i, s.next, j.total))
	} else {
		j.onWay = append(j.onWay, data(i, s.next, from, n))
	}
	s.next += n
}

// arrive lets one of the segments arrive, or one of them again.
func (j *journey) arrive() {
	if len(j.onWay) == 0 {
		return
	}
	k := j.roll(min(len(j.onWay), 12))
	x := j.onWay[k]
	j.onWay = append(j.onWay[:k:k], j.onWay[k+1:]...)
	marked := j.roll(5) == 0
	a := expectTake(j.t, "take", j.r, x, marked, takesBy(j.r, x, marked).e)
	switch a.e {
	case api.OK:
		j.r = a.receiver
		j.note(x, marked)
		j.check(a.seg)
		if j.roll(5) == 0 { // it comes once more
			j.onWay = append(j.onWay, x)
		}
	case api.ErrFull:
		j.onWay = append(j.onWay, x) // it is sent again
	default:
		j.t.Errorf("error %d", a.e)
	}
}

// near returns the number near another one that is transmitted as low.
func near(n int, low uint32) int {
	return n + int(int32(low-uint32(n)))
}

// note notes that x has come.
func (j *journey) note(x api.Seg, marked bool) {
	s := &j.subs[x.Sub]
	n := max(1, len(x.B))
	for i := range n {
		s.came[near(s.next, x.Seq)+i] = true
		j.came[near(0, x.Dsn)+i] = true
	}
	if marked {
		s.packets, s.bytes = s.packets+1, s.bytes+n
	}
}

// check checks that what is acknowledged is what has come, no more and no less.
func (j *journey) check(y api.Seg) {
	s := &j.subs[y.Sub]
	got := near(s.next, y.Got)
	for n := s.first; n < got; n++ {
		if !s.came[n] {
			j.t.Errorf("subflow %d: %d is acknowledged, %d has not come", y.Sub, got, n)
		}
	}
	if s.came[got] {
		j.t.Errorf("subflow %d: %d has come, and is not acknowledged", y.Sub, got)
	}
	for _, p := range y.Sacks {
		from, upto := near(s.next, p.From), near(s.next, p.Upto)
		for n := from; n < upto; n++ {
			if !s.came[n] {
				j.t.Errorf("subflow %d: %d is acknowledged", y.Sub, n)
			}
		}
		if from <= got || s.came[from-1] || s.came[upto] {
			j.t.Errorf("subflow %d: %d to %d is no span", y.Sub, from, upto)
		}
	}
	for n := range int(y.Dgot) {
		if !j.came[n] {
			j.t.Errorf("%d is acknowledged, %d has not come", y.Dgot, n)
		}
	}
	if j.came[int(y.Dgot)] {
		j.t.Errorf("%d has come, and is not acknowledged", y.Dgot)
	}
	if y.Ace != s.packets%8 || int(y.Ce) != s.bytes%(1<<24) {
		j.t.Errorf("subflow %d: %d and %d marked, told %d and %d", y.Sub, s.packets, s.bytes, y.Ace, y.Ce)
	}
}

// take reads some bytes.
func (j *journey) take(n int) {
	want := readsBy(j.r, n)
	a := expectRead(j.t, "read", j.r, n, want.b, api.OK)
	j.r, j.read = a.receiver, append(j.read, a.b...)
	if !bytes.Equal(j.read, text(0, len(j.read))) {
		j.t.Errorf("what was read is not the text")
	}
}

// P21.5: in whichever order and however often segments come, with whichever borders, the bytes that are read are those of the stream, and nothing is acknowledged that has not come.
func TestJourneys(t *testing.T) {
	for seed := range 20 {
		const total = 1000
		room := []int{10, 40, 300, 2000}[seed%4]
		j := start(t, seed, room, total, seed%3 == 0)
		for step := 0; !receiver.Over(j.r) && step < 20000 && !t.Failed(); step++ {
			from := cumulativeBy(j.r.W)
			switch j.roll(6) {
			case 0, 1:
				if len(j.onWay) < 20 {
					j.send(min(total, max(0, from-20+j.roll(20+min(room, 100)))), 1+j.roll(min(room, 60)))
				}
			case 2:
				if len(j.onWay) < 40 {
					j.send(min(total, from), 1+j.roll(min(room, 10)))
				}
			case 3, 4:
				j.arrive()
			case 5:
				j.take(j.roll(50))
			}
		}
		if !receiver.Over(j.r) || len(j.read) != total {
			t.Fatalf("seed %d: %d bytes were read", seed, len(j.read))
		}
	}
}

// P21.5: a sender hears all acknowledgements of its segments, and both ends know the end.
func TestWithSender(t *testing.T) {
	c := api.Conf{Mss: 50, Most: 5000, Least: 1000, Longest: 1000000, Span: 1000000, Total: 8, Keep: 600, Weave: 300}
	const total = 3000
	for seed := range 8 {
		roll := dice(seed)
		s, r := sure(sender.New(c)), sure(receiver.New(c.Weave))
		s = sure(sender.Join(s, c, 1+seed%3))
		var got []byte
		wrote, now, heard := 0, 0, 0
		var back []api.Seg
		hear := func(y api.Seg) {
			u, e := sender.Hear(s, c, y, now)
			if e != api.OK {
				t.Fatalf("seed %d: error %d for %+v", seed, e, y)
			}
			s, heard = u, heard+1
		}
		for step := 0; !(sender.Done(s) && receiver.Over(r)) && step < 5000; step++ {
			now += 1000
			u, n, e := sender.Write(s, c, text(wrote, min(200, total-wrote)))
			if e == api.OK {
				s, wrote = u, wrote+n
			}
			if wrote == total {
				s = sure(sender.Shut(s, c))
			}
			for {
				u, x, e := sender.Pull(s, c, now)
				s = u
				if e != api.OK {
					break
				}
				if roll(8) == 0 { // it is lost
					continue
				}
				a := expectTake(t, "take", r, x, roll(8) == 0, api.OK)
				r = a.receiver
				back = append(back, a.seg)
			}
			a := expectRead(t, "read", r, 120, readsBy(r, 120).b, api.OK)
			r, got = a.receiver, append(got, a.b...)
			for i, f := range s.F {
				if f.Up { // reading makes space, of which the sender is to hear
					back = append(back, sure(receiver.Told(r, i, uint32(now))))
				}
			}
			for now += 10000; len(back) > 0; back = back[1:] {
				hear(back[0])
			}
			s = sure(sender.Tick(s, c, now))
			if t.Failed() {
				t.Fatalf("seed %d", seed)
			}
		}
		if !sender.Done(s) || !receiver.Over(r) || !bytes.Equal(got, text(0, total)) || heard < 60 {
			t.Errorf("seed %d: %d of %d bytes were read, %d answers heard", seed, len(got), wrote, heard)
		}
	}
}
