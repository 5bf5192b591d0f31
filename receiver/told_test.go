package receiver_test

import (
	"math"
	"testing"

	"fourinhand/api"
)

// ackOf returns the acknowledgement of a receiver with space for 1000 bytes that has received none, and of a subflow that has not either.
func ackOf(change func(y *api.Seg)) api.Seg {
	y := api.Seg{Kind: api.Ack, Ecn: true, Win: 1000, Echo: 5}
	change(&y)
	return y
}

// P21.2: all fields at once, of each subflow.
func TestTold(t *testing.T) {
	r := middle()
	expectTold(t, "subflow 0", r, 0, 5, api.Seg{Kind: 3, Ecn: true, Sub: 0, Got: 100, Dgot: 5010, Win: 990, Ace: 1, Ce: 50, Echo: 5, Sacks: pairs(150, 200, 220, 230, 300, 310)}, api.OK)
	expectTold(t, "subflow 1", r, 1, 0, api.Seg{Kind: 3, Ecn: true, Sub: 1, Got: 0, Dgot: 5010, Win: 990, Ace: 7, Ce: 70, Echo: 0, Sacks: pairs(10, 20)}, api.OK)
	expectTold(t, "subflow 2", r, 2, math.MaxUint32, api.Seg{Kind: 3, Ecn: true, Sub: 2, Got: 5, Dgot: 5010, Win: 990, Echo: math.MaxUint32, Sacks: pairs(10, 20)}, api.OK)
	expectTold(t, "subflow 3", r, 3, 1<<31, api.Seg{Kind: 3, Ecn: true, Sub: 3, Dgot: 5010, Win: 990, Echo: 1 << 31}, api.OK)
	for _, sub := range []int{-1, 4, math.MinInt, -4, 5, 1 << 32, math.MaxInt} {
		expectTold(t, "no such subflow", r, sub, 5, api.Seg{}, api.ErrArg)
	}
}

// P21.2: Got is of the first position that was not received, and the Sacks are behind it.
func TestToldGot(t *testing.T) {
	cases := []struct {
		why   string
		got   []api.Span
		first uint32
		sacks []api.Pair
	}{
		{"nothing received", nil, 0, nil},
		{"the position 0 missing", list(1, 5), 0, pairs(1, 5)},
		{"the position 0 received", list(0, 1), 1, nil},
		{"the first positions received", list(0, 100), 100, nil},
		{"the first positions and one span", list(0, 100, 101, 102), 100, pairs(101, 102)},
		{"the first positions and two spans", list(0, 100, 101, 102, 300, 400), 100, pairs(101, 102, 300, 400)},
		{"the first positions and three spans", list(0, 1, 2, 3, 4, 5, 6, 7), 1, pairs(2, 3, 4, 5, 6, 7)},
		{"the first positions and four spans", list(0, 1, 2, 3, 4, 5, 6, 7, 8, 9), 1, pairs(2, 3, 4, 5, 6, 7)},
		{"two spans", list(10, 20, 30, 40), 0, pairs(10, 20, 30, 40)},
		{"three spans", list(10, 20, 30, 40, 50, 60), 0, pairs(10, 20, 30, 40, 50, 60)},
		{"four spans", list(10, 20, 30, 40, 50, 60, 70, 80), 0, pairs(10, 20, 30, 40, 50, 60)},
		{"1000 spans", single(1000, 1), 0, pairs(1, 2, 3, 4, 5, 6)},
		{"1000 spans from 0 on", single(1000, 0), 1, pairs(2, 3, 4, 5, 6, 7)},
		{"just below 2^32", list(0, turn-1), turn - 1, nil},
		{"just at 2^32", list(0, turn), 0, nil},
		{"beyond 2^32", list(0, turn+7), 7, nil},
		{"far beyond 2^32", list(0, 5*turn+7, 5*turn+9, 5*turn+10), 7, pairs(9, 10)},
		{"ends at 2^32", list(0, turn-20, turn-10, turn), turn - 20, pairs(turn-10, 0)},
		{"ends beyond 2^32", list(0, turn-20, turn-10, turn+10, turn+30, turn+40), turn - 20, pairs(turn-10, 10, 30, 40)},
		{"a span that is longer than 2^32", list(3, turn+5), 0, pairs(3, 5)},
		{"a span of 2^32", list(3, turn+3), 0, pairs(3, 3)},
		{"all positions", list(0, 1<<62), 0, nil},
		{"the last position", list(0, 7, 1<<62-1, 1<<62), 7, pairs(math.MaxUint32, 0)},
	}
	for _, c := range cases {
		for sub := range api.Subs {
			r := of(buffer(0, 1000, -1, nil))
			r.S[(sub+1)%4].Got = list(0, 50, 60, 70) // it does not count
			r.S[sub].Got = c.got
			expectTold(t, c.why, r, sub, 5, ackOf(func(y *api.Seg) { y.Sub, y.Got, y.Sacks = sub, c.first, c.sacks }), api.OK)
		}
	}
}

// P21.2: Dgot is of the cumulative position, and Win is the space from there on.
func TestToldDgot(t *testing.T) {
	cases := []struct {
		why  string
		w    api.Weave
		dgot uint32
		win  int
	}{
		{"none ready", buffer(0, 1000, -1, nil), 0, 1000},
		{"none ready, some there", buffer(10, 1000, -1, list(11, 20)), 10, 1000},
		{"one ready", buffer(10, 1000, -1, list(10, 11)), 11, 999},
		{"some ready", buffer(10, 1000, -1, list(10, 30)), 30, 980},
		{"some ready, some behind", buffer(10, 1000, -1, list(10, 30, 31, 40)), 30, 980},
		{"all read", buffer(30, 1000, -1, nil), 30, 1000},
		{"all up to the end", buffer(10, 1000, 30, list(10, 30)), 31, 979},
		{"one missing at the end", buffer(10, 1000, 31, list(10, 30)), 30, 980},
		{"the end reached behind a gap", buffer(10, 1000, 40, list(10, 30, 31, 40)), 30, 980},
		{"the end read", buffer(30, 1000, 30, nil), 31, 999},
		{"the end where nothing was read", buffer(0, 1000, 0, nil), 1, 999},
		{"the end known, nothing there", buffer(30, 1000, 31, nil), 30, 1000},
		{"just below 2^32", buffer(turn-10, 1000, -1, list(turn-10, turn-1)), turn - 1, 991},
		{"at 2^32", buffer(turn-10, 1000, -1, list(turn-10, turn)), 0, 990},
		{"the end just below 2^32", buffer(turn-10, 1000, turn-1, list(turn-10, turn-1)), 0, 990},
		{"beyond 2^32", buffer(turn-10, 1000, -1, list(turn-10, turn+5)), 5, 985},
		{"far beyond 2^32", buffer(6*turn, 1000, -1, list(6*turn, 6*turn+5)), 5, 995},
		{"no space left", buffer(0, 10, -1, list(0, 10)), 10, 0},
		{"space for one", buffer(0, 10, -1, list(0, 9)), 9, 1},
		{"the end is at the edge", buffer(0, 10, 10, list(0, 10)), 11, 0},
		{"the end is one below the edge", buffer(0, 10, 9, list(0, 9)), 10, 0},
		{"the end is two below the edge", buffer(0, 10, 8, list(0, 8)), 9, 1},
		{"no space at all", buffer(50, 0, -1, nil), 50, 0},
		{"no space at all, and the end", buffer(50, 0, 50, nil), 51, 0},
		{"65534", buffer(0, 65534, -1, nil), 0, 65534},
		{"65535", buffer(0, 65535, -1, nil), 0, 65535},
		{"65536", buffer(0, 65536, -1, nil), 0, 65535},
		{"65536 less one", buffer(0, 65536, -1, list(0, 1)), 1, 65535},
		{"65536 less two", buffer(0, 65536, -1, list(0, 2)), 2, 65534},
		{"65536 less the end", buffer(0, 65536, 0, nil), 1, 65535},
		{"the last edge", buffer(furthest-5, 1000, -1, nil), turn - 5, 5},
		{"at the last edge", buffer(furthest, 1000, -1, nil), 0, 0},
		{"the end at the last edge", buffer(furthest, 1000, furthest, nil), 1, 0},
	}
	for _, c := range cases {
		expectTold(t, c.why, of(c.w), 2, 5, ackOf(func(y *api.Seg) { y.Sub, y.Dgot, y.Win = 2, c.dgot, c.win }), api.OK)
	}
}

// P21.2: Ace and Ce are the low bits of the counts.
func TestToldMarks(t *testing.T) {
	cases := []struct {
		packets, bytes int
		ace            int
		ce             uint32
	}{
		{0, 0, 0, 0},
		{1, 100, 1, 100},
		{7, 1<<24 - 1, 7, 1<<24 - 1},
		{8, 1 << 24, 0, 0},
		{9, 1<<24 + 1, 1, 1},
		{8005, 5<<24 + 700, 5, 700},
		{latest, latest, 0, 0},
		{latest - 1, latest - 1, 7, 1<<24 - 1},
	}
	for _, c := range cases {
		r := of(buffer(0, 1000, -1, nil))
		for i := range r.S {
			r.S[i].M = api.Marks{Packets: 3, Bytes: 3}
		}
		r.S[3].M = api.Marks{Packets: c.packets, Bytes: c.bytes, Came: 500, Marked: 300, Part: 100}
		expectTold(t, "marks", r, 3, 5, ackOf(func(y *api.Seg) { y.Sub, y.Ace, y.Ce = 3, c.ace, c.ce }), api.OK)
	}
}
