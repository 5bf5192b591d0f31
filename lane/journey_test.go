package lane_test

import (
	"fmt"
	"strings"
	"testing"

	"fourinhand/api"
	"fourinhand/lane"
)

// dice returns a function that returns numbers from 0 on below n, which depend on the seed only.
func dice(seed int) func(n int) int {
	state := uint64(seed)*2862933555777941757 + 3037000493
	return func(n int) int {
		state = state*6364136223846793005 + 1442695040888963407
		return int(state>>24) % n // the lower bits repeat soon
	}
}

// P22.1, P22.2: all lanes of up to three of some packets, by the definition.
func TestSmall(t *testing.T) {
	lanes := [][]pack{nil}
	for from := 0; len(lanes[from]) < 3; from++ {
		for _, p := range of("", "x", "yz*", "x*") {
			lanes = append(lanes, joined(lanes[from], p))
		}
	}
	for _, l := range lanes {
		ops := []op{push(""), push("x"), push("uvw")}
		for i := -1; i <= len(l); i++ {
			ops = append(ops, take(i), twice(i), mark(i))
			for at := -1; at < 3; at++ {
				ops = append(ops, spoil(i, at, 0), spoil(i, at, 1), spoil(i, at, 255))
			}
		}
		for _, o := range ops {
			expect(t, l, o, o.expected(l))
		}
	}
}

// rolledLane returns a lane, which need not be valid.
func rolledLane(roll func(n int) int) []pack {
	var l []pack
	for i := range []int{roll(4), roll(20), 60 + roll(4), 64, 64 + roll(3)}[roll(5)] {
		n := []int{0, 1, roll(40), roll(40)}[roll(4)]
		l = append(l, pack{text(i+roll(9), n), roll(3) == 0})
	}
	if len(l) > 0 && roll(3) == 0 {
		l[roll(len(l))].b = text(roll(50), 1998+roll(4))
	}
	return l
}

// rolledOp returns a call that may be possible.
func rolledOp(roll func(n int) int, l []pack) op {
	i := roll(len(l)+2) - 1
	n := 0
	if i >= 0 && i < len(l) {
		n = len(l[i].b)
	}
	switch roll(5) {
	case 0:
		return push(text(roll(50), []int{roll(3), roll(40), 1998 + roll(4)}[roll(3)]))
	case 1:
		return take(i)
	case 2:
		return twice(i)
	case 3:
		return mark(i)
	}
	return spoil(i, roll(n+2)-1, byte(roll(256)))
}

// P22.1 to P22.3: lanes from all over their range, by the definition; a valid one remains valid.
func TestRolled(t *testing.T) {
	roll := dice(22)
	type kind struct {
		name      string
		valid, ok bool
	}
	count := map[kind]int{}
	for i := range 6000 {
		l := rolledLane(roll)
		o := rolledOp(roll, l)
		want := o.expected(l)
		expectMay(t, fmt.Sprint("roll ", i), l, mayBy(l))
		expect(t, l, o, want)
		if a := o.call(given(l), roomy(o.b)); lane.May(a.l) != mayBy(l) {
			t.Errorf("roll %d: %s: May is %v", i, o.describe(l), lane.May(a.l))
		}
		count[kind{o.name, mayBy(l), want.ok}]++
		if t.Failed() {
			t.Fatalf("roll %d", i)
		}
	}
	for _, name := range []string{"push", "take", "twice", "mark", "spoil"} {
		for _, k := range []kind{{name, true, true}, {name, true, false}, {name, false, false}} {
			if count[k] < 20 {
				t.Errorf("%v only %d times", k, count[k])
			}
		}
	}
}

// P22.3: a lane on which only one thing is done, as often as it goes and on, remains valid.
func TestRemainsValid(t *testing.T) {
	for _, start := range valid() {
		for _, o := range []op{push(""), push("ab"), push(text(1, 2000)), push(text(1, 2001)), take(0), take(1), take(63), twice(0), twice(1), mark(0), mark(63), spoil(0, 0, 1), spoil(0, 1999, 255)} {
			l, packs := given(start), start
			for range 70 {
				a := o.call(l, []byte(o.b))
				want := o.expected(packs)
				if !lane.May(a.l) || !a.outcome().equal(want) {
					t.Fatalf("%s: %v instead of %v", o.describe(packs), a.outcome(), want)
				}
				l, packs = a.l, want.l
			}
		}
	}
}

// fate is what became of a packet: what was pushed, whether it was marked, and by how much which byte was changed.
type fate struct {
	pushed string
	marked bool
	faults map[int]byte
}

// copied returns the same fate, for a packet that goes its own way.
func (f fate) copied() fate {
	faults := map[int]byte{}
	for at, by := range f.faults {
		faults[at] = by
	}
	f.faults = faults
	return f
}

// journey is a lane, and the fates of the packets on it.
type journey struct {
	t     *testing.T
	roll  func(n int) int
	l     []api.Packet
	fates []fate
	count int
	clean int // how many were taken that were neither marked nor spoiled
	other int // and how many others
}

// push pushes a packet that no other one is like.
func (j *journey) push() {
	j.count++
	b := fmt.Sprint(j.count, strings.Repeat(".", j.roll(30)))
	l, ok := lane.Push(j.l, []byte(b))
	if ok != (len(j.fates) < 64) {
		j.t.Fatalf("push onto %d: %v", len(j.fates), ok)
	}
	if ok {
		j.fates = append(j.fates, fate{b, false, map[int]byte{}})
	}
	j.l = l
}

// twice has a packet there twice.
func (j *journey) twice(i int) {
	l, ok := lane.Twice(j.l, i)
	if ok != (len(j.fates) < 64) {
		j.t.Fatalf("twice of %d: %v", len(j.fates), ok)
	}
	if ok {
		j.fates = append(j.fates, j.fates[i].copied())
	}
	j.l = l
}

// mark marks a packet.
func (j *journey) mark(i int) {
	l, ok := lane.Mark(j.l, i)
	if !ok {
		j.t.Fatal("mark")
	}
	j.l, j.fates[i].marked = l, true
}

// spoil spoils a packet, or one that was spoiled again, so that it may be as it was.
func (j *journey) spoil(i int) {
	at, by := j.roll(len(j.fates[i].pushed)), byte(j.roll(3))
	l, ok := lane.Spoil(j.l, i, at, by)
	if !ok {
		j.t.Fatal("spoil")
	}
	j.l = l
	j.fates[i].faults[at] ^= by
}

// take takes a packet, and checks that it is as it must be.
func (j *journey) take(i int) {
	l, p, ok := lane.Take(j.l, i)
	if !ok {
		j.t.Fatal("take")
	}
	f := j.fates[i]
	j.l, j.fates = l, append(j.fates[:i:i], j.fates[i+1:]...)
	b := []byte(f.pushed)
	for at, by := range f.faults {
		b[at] ^= by
	}
	if string(p.B) != string(b) || p.Marked != f.marked {
		j.t.Fatalf("%q %v was taken instead of %q %v", p.B, p.Marked, b, f.marked)
	}
	if len(f.faults) == 0 && !f.marked {
		j.clean++
	} else {
		j.other++
	}
}

// P22.3: a packet is taken as it was pushed, unless it was marked or spoiled, whatever happens to the others; the lane remains valid.
func TestJourney(t *testing.T) {
	for seed := range 20 {
		j := &journey{t: t, roll: dice(seed)}
		for step := range 1500 {
			fills := step/300%2 == 0 // so that it is full, and empty, now and then
			n := len(j.fates)
			switch k := j.roll(10); {
			case n == 0 || k < 4 && fills || k < 2:
				j.push()
			case k < 5:
				j.twice(j.roll(n))
			case k < 6:
				j.mark(j.roll(n))
			case k < 7:
				j.spoil(j.roll(n))
			case k < 8 || !fills:
				j.take(j.roll(n))
			}
			if !lane.May(j.l) || len(j.l) != len(j.fates) {
				t.Fatalf("seed %d, step %d: %d packets instead of %d", seed, step, len(j.l), len(j.fates))
			}
		}
		for len(j.fates) > 0 {
			j.take(0)
		}
		if len(j.l) != 0 || j.clean < 50 || j.other < 50 {
			t.Errorf("seed %d: %d left, %d taken as they were pushed, %d others", seed, len(j.l), j.clean, j.other)
		}
	}
}
