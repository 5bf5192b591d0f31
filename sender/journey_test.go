package sender_test

import (
	"bytes"
	"testing"

	"fourinhand/api"
	"fourinhand/sender"
)

// journey is a sender, what is on its way to the other end and back, and the other end.
type journey struct {
	t       *testing.T
	roll    func(n int) int
	c       api.Conf
	s       api.Sender
	now     int
	accept  []byte       // all that was accepted
	onWay   []api.Seg    // what was sent and is not at the other end yet
	backs   []api.Seg    // acknowledgements that have not come
	arrived map[int]byte // each byte that has come, by its position; also the end
	end     int          // where the end is, or -1
	read    int          // how many bytes were read
	edge    int          // the last position that was ever advertised
	flows   [4]struct {
		arrived        map[int]bool // each position of a subflow that has come
		upto           int          // behind the last one of them
		packets, bytes int          // how many were marked
	}
}

// start returns a journey that begins.
func start(t *testing.T, seed int, c api.Conf) *journey {
	s, e := sender.New(c)
	j := &journey{t: t, roll: dice(seed), c: c, s: sure(s, e), arrived: map[int]byte{}, end: -1, edge: c.Weave}
	for i := range j.flows {
		j.flows[i].arrived = map[int]bool{}
	}
	return j
}

// write writes some bytes.
func (j *journey) write(n int) {
	b := text(len(j.accept), n)
	n = min(n, j.c.Keep-len(j.s.K.B))
	e := api.OK
	if j.s.K.Shut {
		n, e = 0, api.ErrDone
	}
	a := expectWrite(j.t, "write", j.s, j.c, b, n, e)
	if a.e == api.OK {
		j.s, j.accept = a.sender, append(j.accept, b[:n]...)
	}
}

// pull lets the sender send, and reports whether it did; what is sent is what was accepted, and not beyond what was advertised.
func (j *journey) pull() bool {
	a := expectPull(j.t, "pull", j.s, j.c, j.now, pullsBy(j.s, j.c, j.now).e)
	j.s = a.sender
	if a.e != api.OK {
		return false
	}
	at, upto := int(a.seg.Dsn), int(a.seg.Dsn)+len(a.seg.B)
	switch {
	case upto > len(j.accept) || !bytes.Equal(a.seg.B, j.accept[at:upto]):
		j.t.Errorf("%d to %d: not what was accepted", at, upto)
	case upto > j.edge && upto > at:
		j.t.Errorf("%d to %d: beyond %d", at, upto, j.edge)
	case a.seg.Fin != (at == len(j.accept) && j.s.K.Shut) || a.seg.Fin != (at == upto):
		j.t.Errorf("%d to %d: Fin %v", at, upto, a.seg.Fin)
	}
	j.onWay = append(j.onWay, a.seg)
	return true
}

// take removes one of the first segments of l, or copies it.
func (j *journey) take(l *[]api.Seg, copied bool) (api.Seg, bool) {
	if len(*l) == 0 {
		return api.Seg{}, false
	}
	i := min(j.roll(3), len(*l)-1)
	x := (*l)[i]
	if !copied {
		*l = append((*l)[:i:i], (*l)[i+1:]...)
	}
	return x, true
}

// arrive lets x arrive, and be answered.
func (j *journey) arrive(x api.Seg, marked bool) {
	f := &j.flows[x.Sub]
	n := max(1, len(x.B))
	for i := range n {
		f.arrived[int(x.Seq)+i] = true
	}
	f.upto = max(f.upto, int(x.Seq)+n)
	if marked {
		f.packets, f.bytes = f.packets+1, f.bytes+n
	}
	for i, c := range x.B {
		j.arrived[int(x.Dsn)+i] = c
	}
	if x.Fin {
		j.arrived[int(x.Dsn)], j.end = 0, int(x.Dsn)
	}
	j.answer(x.Sub)
}

// ready returns the first position that has not come.
func (j *journey) ready() int {
	n := j.read
	for {
		if _, ok := j.arrived[n]; !ok {
			return n
		}
		n++
	}
}

// answer lets the other end acknowledge what it has of subflow i.
func (j *journey) answer(i int) {
	f := &j.flows[i]
	dgot := j.ready()
	x := api.Seg{Kind: api.Ack, Sub: i, Ecn: true, Dgot: uint32(dgot), Win: max(0, j.read+j.c.Weave-dgot), Ace: f.packets % 8, Ce: uint32(f.bytes % (1 << 24))}
	j.edge = max(j.edge, dgot+x.Win)
	for f.arrived[int(x.Got)] {
		x.Got++
	}
	for n := uint32(x.Got); int(n) < f.upto; n++ {
		switch k := len(x.Sacks); {
		case !f.arrived[int(n)]:
		case k > 0 && x.Sacks[k-1].Upto == n:
			x.Sacks[k-1].Upto++
		case k < 3:
			x.Sacks = append(x.Sacks, api.Pair{From: n, Upto: n + 1})
		}
	}
	j.backs = append(j.backs, x)
}

// hear lets the sender hear x.
func (j *journey) hear(x api.Seg) {
	a := expectHear(j.t, "hear", j.s, j.c, x, j.now, hearsBy(j.s, j.c, x, j.now).e)
	if a.e == api.OK {
		j.s = a.sender
	}
}

// consume lets the other end read up to n bytes, and tell that it did.
func (j *journey) consume(n int) {
	upto := j.ready()
	if upto > j.end && j.end >= 0 {
		upto = j.end
	}
	j.read = min(upto, j.read+n)
	for i := range 4 {
		if i == 0 || j.flows[i].upto > 0 {
			j.answer(i)
		}
	}
}

// tick lets time go by.
func (j *journey) tick(n int) {
	j.now += n
	j.s = expectTick(j.t, "tick", j.s, j.c, j.now, api.OK).sender
}

// join lets a subflow join, if it may.
func (j *journey) join(i int) {
	if a := expectJoin(j.t, "join", j.s, j.c, i, joinsBy(j.s, j.c, i).e); a.e == api.OK {
		j.s = a.sender
	}
}

// leave lets a subflow leave, if another one is Up.
func (j *journey) leave(i int) {
	ups := 0
	for _, f := range j.s.F {
		if f.Up {
			ups++
		}
	}
	if a := expectLeave(j.t, "leave", j.s, j.c, i, leavesBy(j.s, j.c, i).e); a.e == api.OK && ups > 1 {
		j.s = a.sender
	}
}

// step does something.
func (j *journey) step() {
	switch j.roll(24) {
	case 0, 1:
		j.write(j.roll(300))
	case 2, 3, 4, 5, 6, 7:
		j.pull()
	case 8, 9, 10, 11, 12:
		if x, ok := j.take(&j.onWay, j.roll(10) == 0); ok {
			j.arrive(x, j.roll(10) == 0)
		}
	case 13, 14, 15, 16:
		if x, ok := j.take(&j.backs, j.roll(10) == 0); ok {
			j.hear(x)
		}
	case 17:
		j.tick(j.roll(3000))
	case 18:
		j.consume(j.roll(400))
	case 19:
		if j.roll(2) == 0 {
			j.join(j.roll(4))
		}
	case 20:
		if j.roll(5) == 0 {
			j.leave(j.roll(4))
		}
	case 21, 22: // something is lost on the way
		if j.roll(2) == 0 {
			j.take(&j.onWay, false)
		}
	case 23:
		if j.roll(3) == 0 {
			j.take(&j.backs, false)
		}
	}
}

// finish lets all arrive: nothing is lost any more, time goes by, and the other end reads.
func (j *journey) finish() {
	for range 2000 {
		if sender.Done(j.s) {
			return
		}
		if !j.s.K.Shut && len(j.accept) < 3000 {
			j.write(200)
		} else {
			j.s = expectShut(j.t, "shut", j.s, j.c, api.OK).sender
		}
		for j.pull() {
		}
		for len(j.onWay) > 0 {
			x, _ := j.take(&j.onWay, false)
			j.arrive(x, false)
		}
		j.consume(10000)
		for len(j.backs) > 0 {
			j.hear(j.backs[0])
			j.backs = j.backs[1:]
		}
		j.tick(20000)
		if j.t.Failed() {
			return
		}
	}
}

// P20.7: on journeys with losses, delays, duplicates and marks, with subflows that come and go, senders remain valid, and in the end all has arrived and is acknowledged.
func TestJourneys(t *testing.T) {
	left, joined := 0, 0
	for seed := range 20 {
		c := confWith(func(c *api.Conf) {
			roll := dice(seed)
			c.Vegas = seed%2 == 0
			c.Mss = []int{20, 40, 100}[roll(3)]
			c.Most = c.Mss * []int{1, 3, 100}[roll(3)]
			c.Keep = []int{50, 400, 1000}[roll(3)]
			c.Weave = []int{30, 300, 1000}[roll(3)]
		})
		j := start(t, seed, c)
		for range 300 {
			j.step()
		}
		j.finish()
		var got []byte
		for i := range j.accept {
			got = append(got, j.arrived[i])
		}
		if !sender.Done(j.s) || !bytes.Equal(got, j.accept) || j.read != len(j.accept) || j.end != len(j.accept) || j.read < 3000 || t.Failed() {
			t.Fatalf("seed %d: %d of %d bytes were read: %+v", seed, j.read, len(j.accept), j.s)
		}
		if len(j.s.K.B) > 0 || j.s.K.Base != len(j.accept) {
			t.Errorf("seed %d: not all is released: %+v", seed, j.s)
		}
		for _, f := range j.s.F {
			if f.Next > 0 && !f.Up {
				left++
			}
			if f.Next > 0 {
				joined++
			}
		}
	}
	if left < 10 || joined < 40 {
		t.Errorf("%d subflows have joined, %d left", joined, left)
	}
}
