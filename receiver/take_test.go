package receiver_test

import (
	"fmt"
	"math"
	"testing"

	"fourinhand/api"
	"fourinhand/seqno"
)

// expectText checks that a receive buffer has these positions, with the text at them.
func expectText(t *testing.T, why string, w api.Weave, got []api.Span) {
	t.Helper()
	expectEqual(t, why+": bytes", w, buffer(w.Base, w.Cap, w.End, got))
}

// P21.3: a segment of each subflow, with all fields of what is returned.
func TestTake(t *testing.T) {
	r := middle()
	a := expectTake(t, "subflow 0", r, data(0, 100, 5010, 10), true, api.OK)
	want := with(r, func(r *api.Receiver) {
		r.W = buffer(5000, 1000, -1, list(5000, 5030, 5050, 5100))
		r.S[0].Got[0].Upto = 110
		r.S[0].M.Packets, r.S[0].M.Bytes = 10, 1<<24+60
	})
	expectEqual(t, "subflow 0", a.receiver, want)
	expectEqual(t, "subflow 0", a.seg, api.Seg{Kind: api.Ack, Ecn: true, Got: 110, Dgot: 5030, Win: 970, Ace: 2, Ce: 60, Echo: 77, Sacks: pairs(150, 200, 220, 230, 300, 310)})

	a = expectTake(t, "subflow 1", r, data(1, 0, 5200, 1), false, api.OK)
	want = with(r, func(r *api.Receiver) {
		r.W = buffer(5000, 1000, -1, list(5000, 5010, 5020, 5030, 5050, 5100, 5200, 5201))
		r.S[1].Got = list(0, 1, 10, 20)
	})
	expectEqual(t, "subflow 1", a.receiver, want)
	expectEqual(t, "subflow 1", a.seg, api.Seg{Kind: api.Ack, Sub: 1, Ecn: true, Got: 1, Dgot: 5010, Win: 990, Ace: 7, Ce: 70, Echo: 77, Sacks: pairs(10, 20)})

	a = expectTake(t, "the end, on subflow 3", r, fin(3, 50, 5100), true, api.OK)
	want = with(r, func(r *api.Receiver) {
		r.W.End = 5100
		r.S[3] = api.Inlet{Got: list(50, 51), M: api.Marks{Packets: 1, Bytes: 1}}
	})
	expectEqual(t, "the end, on subflow 3", a.receiver, want)
	expectEqual(t, "the end, on subflow 3", a.seg, api.Seg{Kind: api.Ack, Sub: 3, Ecn: true, Dgot: 5010, Win: 990, Ace: 1, Ce: 1, Echo: 77, Sacks: pairs(50, 51)})
}

// formless returns segments that are no data segments, each for one reason alone.
func formless() map[string]api.Seg {
	x := data(1, 20, 5010, 10)
	all := map[string]api.Seg{"all zero": {}}
	add := func(why string, change func(x *api.Seg)) { all[why] = altered(x, change) }
	for _, kind := range []int{math.MinInt, -1, 0, 1, 3, 4, 5, 6, math.MaxInt} {
		add(fmt.Sprint("kind ", kind), func(x *api.Seg) { x.Kind = kind })
	}
	add("Sub -1", func(x *api.Seg) { x.Sub = -1 })
	add("Sub 4", func(x *api.Seg) { x.Sub = 4 })
	add("Sub far off", func(x *api.Seg) { x.Sub = math.MinInt })
	add("Win -1", func(x *api.Seg) { x.Win = -1 })
	add("Win 65536", func(x *api.Seg) { x.Win = 65536 })
	add("Ace -1", func(x *api.Seg) { x.Ace = -1 })
	add("Ace 8", func(x *api.Seg) { x.Ace = 8 })
	add("Ce 2^24", func(x *api.Seg) { x.Ce = 1 << 24 })
	add("4 Sacks", func(x *api.Seg) { x.Sacks = pairs(1, 2, 3, 4, 5, 6, 7, 8) })
	add("1461 bytes", func(x *api.Seg) { x.B = text(5010, 1461) })
	add("bytes with Fin", func(x *api.Seg) { x.Fin = true })
	add("one byte with Fin", func(x *api.Seg) { x.Fin, x.B = true, x.B[:1] })
	add("no bytes without Fin", func(x *api.Seg) { x.B = x.B[:0] })
	return all
}

// P21.3: ErrForm, and that only a receiver that is not valid comes before it.
func TestTakeForm(t *testing.T) {
	full := with(middle(), func(r *api.Receiver) { r.W = buffer(5000, 0, -1, nil) })
	over := with(middle(), func(r *api.Receiver) { r.S[1].M.Packets = latest; r.S[1].Got = single(1000, 50) })
	bad := with(middle(), func(r *api.Receiver) { r.S[2].M.Part = -1 })
	for why, x := range formless() {
		for _, marked := range []bool{false, true} {
			expectTake(t, why, middle(), x, marked, api.ErrForm)
			expectTake(t, why+", no space", full, x, marked, api.ErrForm)
			expectTake(t, why+", nothing may be added", over, x, marked, api.ErrForm)
			expectTake(t, why+", a receiver that is not valid", bad, x, marked, api.ErrArg)
		}
	}
}

// P21.3: a data segment is valid with all of its fields at the ends of their ranges, and only some of them count.
func TestTakeFields(t *testing.T) {
	r := with(middle(), func(r *api.Receiver) { r.W.Cap = 5000 })
	x := data(1, 20, 5010, 10)
	want := expectTake(t, "as it is", r, x, true, api.OK)
	full := altered(x, func(x *api.Seg) {
		x.Ecn, x.Got, x.Dgot, x.Win, x.Ace, x.Ce = true, math.MaxUint32, 7000, 65535, 7, 1<<24-1
		x.Echo, x.Sacks = 99, pairs(1, 2, 9, 3, 7, 7)
	})
	expectSame(t, "with what does not count", expectTake(t, "with what does not count", r, full, true, api.OK), want)
	for _, at := range []uint32{0, 1, 1 << 31, math.MaxUint32} {
		a := expectTake(t, "At", r, altered(x, func(x *api.Seg) { x.At = at }), true, api.OK)
		if a.seg.Echo != at {
			t.Errorf("At %d: Echo %d", at, a.seg.Echo)
		}
		expectEqual(t, "At", a.receiver, want.receiver)
	}
	a := expectTake(t, "1460 bytes", r, data(1, 20, 5010, 1460), true, api.OK)
	expectText(t, "1460 bytes", a.receiver.W, list(5000, 6470))
	expectEqual(t, "1460 bytes", a.receiver.S[1], api.Inlet{Got: list(10, 1480), M: api.Marks{Packets: 8, Bytes: 1530}})
}

// P21.3: the position in the subflow is the one near the first position that was not received.
func TestTakeSeq(t *testing.T) {
	const half = turn / 2
	cases := []struct {
		why       string
		got, want []api.Span
		seq       uint32
	}{
		{"at 0", nil, list(0, 10), 0},
		{"at 5", nil, list(5, 15), 5},
		{"just below", list(0, 100), list(0, 109), 99},
		{"at it", list(0, 100), list(0, 110), 100},
		{"just above", list(0, 100), list(0, 100, 101, 111), 101},
		{"all of it received", list(0, 100), list(0, 100), 90},
		{"all but one received", list(0, 100), list(0, 101), 91},
		{"a gap filled", list(0, 100, 110, 120), list(0, 120), 100},
		{"a gap more than filled", list(0, 100, 105, 108, 109, 120), list(0, 120), 100},
		{"a gap filled in part", list(0, 100, 111, 120), list(0, 110, 111, 120), 100},
		{"just below, before 2^32", list(0, turn-5), list(0, turn+4), math.MaxUint32 - 5},
		{"at it, before 2^32", list(0, turn-5), list(0, turn+5), math.MaxUint32 - 4},
		{"just above, before 2^32", list(0, turn-5), list(0, turn-5, turn-4, turn+6), math.MaxUint32 - 3},
		{"beyond 2^32", list(0, turn-5), list(0, turn-5, turn, turn+10), 0},
		{"just below 2^32", list(0, turn), list(0, turn+9), math.MaxUint32},
		{"at 2^32", list(0, turn), list(0, turn+10), 0},
		{"just above 2^32", list(0, turn), list(0, turn, turn+1, turn+11), 1},
		{"before 2^32, which is received", list(0, turn+100), list(0, turn+100), math.MaxUint32 - 20},
		{"far beyond 2^32", list(0, 3*turn+7), list(0, 3*turn+7, 3*turn+8, 3*turn+18), 8},
		{"the greatest span does not count", list(5, 7*turn), list(5, 7*turn), 5},
		{"near 0 though more is received", list(1, 7*turn), list(0, 7*turn), 0},
		{"half a turn above 0", nil, list(half, half+10), half},
		{"more than half a turn above 0", nil, list(half+1, half+11), half + 1},
		{"the last one of the first turn", nil, list(turn-1, turn+9), math.MaxUint32},
		{"as far below as above", list(0, half), list(0, half), 0},
		{"one nearer above", list(0, half+1), list(0, half+1, turn, turn+10), 0},
		{"one nearer below", list(0, half+1), list(0, half+1), 1},
		{"the last positions", list(0, 1<<62-10), list(0, 1<<62), math.MaxUint32 - 9},
	}
	for _, c := range cases {
		for sub := range api.Subs {
			r := of(buffer(0, 100, -1, nil))
			r.S[(sub+1)%4].Got = list(0, half)
			r.S[sub].Got = c.got
			a := expectTake(t, c.why, r, altered(data(sub, 0, 0, 10), func(x *api.Seg) { x.Seq = c.seq }), false, api.OK)
			expectEqual(t, c.why, a.receiver.S[sub].Got, c.want)
			expectText(t, c.why, a.receiver.W, list(0, 10))
		}
	}
}

// P21.3: the end is one position of the subflow.
func TestTakeSeqFin(t *testing.T) {
	r := of(buffer(0, 100, -1, nil))
	r.S[2].Got = list(0, 5, 6, 9)
	for seq, want := range map[int][]api.Span{4: list(0, 5, 6, 9), 5: list(0, 9), 6: list(0, 5, 6, 9), 9: list(0, 5, 6, 10), 10: list(0, 5, 6, 9, 10, 11)} {
		a := expectTake(t, fmt.Sprint("at ", seq), r, fin(2, seq, 0), false, api.OK)
		expectEqual(t, fmt.Sprint("at ", seq), a.receiver.S[2].Got, want)
	}
}

// P21.3: the position in the stream is the one near the cumulative position.
func TestTakeDsn(t *testing.T) {
	const half = turn / 2
	ready := func(from, upto int) api.Weave { return buffer(from, 100, -1, list(from, upto)) }
	cases := []struct {
		why string
		w   api.Weave
		dsn uint32
		e   api.Errno
		got []api.Span
	}{
		{"at 0", buffer(0, 100, -1, nil), 0, 0, list(0, 10)},
		{"at 5", buffer(0, 100, -1, nil), 5, 0, list(5, 15)},
		{"just below", ready(50, 70), 69, 0, list(50, 79)},
		{"at it", ready(50, 70), 70, 0, list(50, 80)},
		{"just above", ready(50, 70), 71, 0, list(50, 70, 71, 81)},
		{"all below", ready(50, 70), 60, 0, list(50, 70)},
		{"just below, before 2^32", ready(turn-20, turn-5), math.MaxUint32 - 5, 0, list(turn-20, turn+4)},
		{"at it, before 2^32", ready(turn-20, turn-5), math.MaxUint32 - 4, 0, list(turn-20, turn+5)},
		{"just above, before 2^32", ready(turn-20, turn-5), math.MaxUint32 - 3, 0, list(turn-20, turn-5, turn-4, turn+6)},
		{"beyond 2^32", ready(turn-20, turn-5), 0, 0, list(turn-20, turn-5, turn, turn+10)},
		{"just below 2^32", ready(turn-20, turn), math.MaxUint32, 0, list(turn-20, turn+9)},
		{"at 2^32", ready(turn-20, turn), 0, 0, list(turn-20, turn+10)},
		{"just above 2^32", ready(turn-20, turn), 1, 0, list(turn-20, turn, turn+1, turn+11)},
		{"before 2^32, which is there", ready(turn-20, turn+30), math.MaxUint32 - 15, 0, list(turn-20, turn+30)},
		{"far beyond 2^32", ready(3*turn, 3*turn+7), 8, 0, list(3*turn, 3*turn+7, 3*turn+8, 3*turn+18)},
		{"read before", buffer(3*turn, 100, -1, nil), math.MaxUint32 - 20, 0, nil},
		{"near Base, where none is ready", buffer(half, 100, -1, list(half+50, half+60)), 0, 0, list(half+50, half+60)},
		{"as far below as above", buffer(half, 100, -1, nil), 0, 0, nil},
		{"one nearer above", buffer(half+1, 100, -1, nil), 0, api.ErrFull, nil},
		{"one nearer below", buffer(half+1, 100, -1, nil), 1, 0, nil},
		{"what is ready counts, below", ready(half-1, half), 0, 0, list(half-1, half)},
		{"what is ready counts, above", ready(half-1, half+1), 0, api.ErrFull, nil},
		{"the end counts, below", buffer(half-1, 100, half-1, nil), 0, 0, nil},
		{"the end counts, above", buffer(half, 100, half, nil), 0, api.ErrFull, nil},
		{"the end does not count before it is reached", buffer(half, 100, half+1, nil), 0, 0, nil},
		{"half a turn above 0", buffer(0, 100, -1, nil), half, api.ErrFull, nil},
		{"the last one of the first turn", buffer(0, 100, -1, nil), math.MaxUint32, api.ErrFull, nil},
		{"the last positions", buffer(furthest-50, 100, -1, nil), math.MaxUint32 - 9, 0, list(furthest-10, furthest)},
		{"beyond the last position", buffer(furthest-50, 100, -1, nil), math.MaxUint32 - 8, api.ErrFull, nil},
	}
	for _, c := range cases {
		x := data(1, 0, seqno.Unwrap(cumulativeBy(c.w), c.dsn), 10)
		a := expectTake(t, c.why, of(c.w), x, true, c.e)
		if c.e == api.OK {
			expectText(t, c.why, a.receiver.W, c.got)
			expectEqual(t, c.why, a.receiver.S[1], api.Inlet{Got: list(0, 10), M: api.Marks{Packets: 1, Bytes: 10}})
		}
	}
}

// P21.3: the position of the end is the one near the cumulative position, too.
func TestTakeDsnFin(t *testing.T) {
	const half = turn / 2
	cases := []struct {
		why string
		w   api.Weave
		dsn uint32
		e   api.Errno
		end int
	}{
		{"at 0", buffer(0, 100, -1, nil), 0, 0, 0},
		{"at what is missing", buffer(0, 100, -1, list(0, 10)), 10, 0, 10},
		{"just below", buffer(0, 100, -1, list(0, 10)), 9, api.ErrOver, 0},
		{"just above", buffer(0, 100, -1, list(0, 10)), 11, 0, 11},
		{"where it is", buffer(0, 100, 10, list(0, 10)), 10, 0, 10},
		{"where it was read", buffer(10, 100, 10, nil), 10, 0, 10},
		{"where none is", buffer(10, 100, -1, nil), 10, 0, 10},
		{"below Base", buffer(10, 100, -1, nil), 9, api.ErrOver, 0},
		{"before 2^32", buffer(turn-10, 100, -1, list(turn-10, turn-5)), math.MaxUint32, 0, turn - 1},
		{"at 2^32", buffer(turn-10, 100, -1, list(turn-10, turn-5)), 0, 0, turn},
		{"beyond 2^32", buffer(turn-10, 100, -1, list(turn-10, turn-5)), 5, 0, turn + 5},
		{"before 2^32, far on", buffer(5*turn+10, 100, -1, nil), math.MaxUint32, api.ErrOver, 0},
		{"far on", buffer(5*turn-10, 100, -1, nil), 3, 0, 5*turn + 3},
		{"half a turn above", buffer(0, 100, -1, nil), half, 0, half},
		{"as far below as above", buffer(half, 100, -1, nil), 0, api.ErrOver, 0},
		{"one nearer above", buffer(half+1, 100, -1, nil), 0, 0, turn},
		{"the last position", buffer(furthest-5, 100, -1, nil), 0, 0, furthest},
		{"beyond the last position", buffer(furthest-5, 100, -1, nil), 1, api.ErrArg, 0},
		{"far beyond the last position", buffer(furthest, 100, -1, nil), half - 1, api.ErrArg, 0},
		{"as far beyond the last position as below", buffer(furthest, 100, -1, nil), half, api.ErrOver, 0},
		{"beyond the last position, another end known", buffer(furthest, 100, furthest, nil), 1, api.ErrArg, 0},
	}
	for _, c := range cases {
		x := altered(fin(3, 0, 0), func(x *api.Seg) { x.Dsn = c.dsn })
		a := expectTake(t, c.why, of(c.w), x, true, c.e)
		if c.e == api.OK {
			w := c.w
			w.End = c.end
			expectEqual(t, c.why, a.receiver.W, w)
			expectEqual(t, c.why, a.receiver.S[3], api.Inlet{Got: list(0, 1), M: api.Marks{Packets: 1, Bytes: 1}})
		}
	}
}

// P21.3: ErrFull beyond the edge, but not for the end.
func TestTakeFull(t *testing.T) {
	for _, base := range []int{0, 50, turn - 30, 5 * turn, furthest - 60, furthest - 59, furthest - 10} {
		w := buffer(base, 60, -1, nil)
		edge := min(base+60, furthest)
		r := of(w)
		for _, n := range []int{1, 10} {
			if edge-n <= base {
				continue
			}
			why := fmt.Sprint("Base ", base, ", bytes ", n)
			a := expectTake(t, why+": one before", r, data(0, 0, edge-n-1, n), false, api.OK)
			expectText(t, why, a.receiver.W, list(edge-n-1, edge-1))
			a = expectTake(t, why+": at it", r, data(0, 0, edge-n, n), false, api.OK)
			expectText(t, why, a.receiver.W, list(edge-n, edge))
			expectTake(t, why+": one beyond", r, data(0, 0, edge-n+1, n), false, api.ErrFull)
			expectTake(t, why+": at the edge", r, data(0, 0, edge, n), false, api.ErrFull)
			expectTake(t, why+": far beyond", r, data(0, 0, edge+10000, n), false, api.ErrFull)
		}
		if edge < furthest {
			for _, end := range []int{edge - 1, edge, edge + 1, edge + 1<<30} {
				a := expectTake(t, "the end", r, fin(0, 0, end), false, api.OK)
				if a.receiver.W.End != end {
					t.Errorf("End %d instead of %d", a.receiver.W.End, end)
				}
			}
		}
	}
	none := of(buffer(500, 0, -1, nil))
	expectTake(t, "no space at all", none, data(0, 0, 500, 1), false, api.ErrFull)
	expectTake(t, "no space at all, read before", none, data(0, 0, 490, 10), false, api.OK)
	expectTake(t, "no space at all, read before but one", none, data(0, 0, 490, 11), false, api.ErrFull)
	a := expectTake(t, "no space at all, the end", none, fin(0, 0, 500), false, api.OK)
	if a.receiver.W.End != 500 || a.seg.Dgot != 501 || a.seg.Win != 0 {
		t.Errorf("no space at all, the end: %+v", a)
	}
}

// P21.3: the errors of weave.Shut.
func TestTakeShut(t *testing.T) {
	r := of(buffer(50, 100, 80, list(50, 60, 70, 75)))
	for _, at := range []int{0, 49, 50, 60, 74, 75, 79, 81, 150, 1 << 31} {
		expectTake(t, fmt.Sprint("another end, ", at), r, fin(1, 0, at), true, api.ErrOver)
	}
	a := expectTake(t, "the same end", r, fin(1, 0, 80), true, api.OK)
	expectEqual(t, "the same end", a.receiver.W, r.W)
	open := of(buffer(50, 100, -1, list(50, 60, 70, 75)))
	for _, at := range []int{0, 49, 50, 60, 70, 74} {
		expectTake(t, fmt.Sprint("an end before bytes, ", at), open, fin(1, 0, at), true, api.ErrOver)
	}
	expectTake(t, "an end behind all bytes", open, fin(1, 0, 75), true, api.OK)
}

// P21.3: the errors of weave.Put.
func TestTakePut(t *testing.T) {
	r := of(buffer(50, 100, 80, list(50, 60, 70, 75)))
	expectTake(t, "up to the end", r, data(1, 0, 70, 10), true, api.OK)
	expectTake(t, "one beyond the end", r, data(1, 0, 71, 10), true, api.ErrOver)
	expectTake(t, "one byte behind the end", r, data(1, 0, 80, 1), true, api.ErrOver)
	expectTake(t, "up to the edge", r, data(1, 0, 140, 10), true, api.ErrOver)
	expectTake(t, "beyond the edge", r, data(1, 0, 141, 10), true, api.ErrFull)
	near := of(buffer(50, 100, 149, nil))
	expectTake(t, "the end is one before the edge", near, data(1, 0, 140, 9), true, api.OK)
	expectTake(t, "beyond the end, at the edge", near, data(1, 0, 140, 10), true, api.ErrOver)
	expectTake(t, "beyond the end and the edge", near, data(1, 0, 140, 11), true, api.ErrFull)

	many := of(buffer(0, 3000, -1, single(1000, 0)))
	expectTake(t, "the 1001st span of bytes", many, data(1, 0, 2000, 1), true, api.ErrFull)
	a := expectTake(t, "bytes that touch the last one of 1000", many, data(1, 0, 1999, 1), true, api.OK)
	expectText(t, "bytes that touch the last one of 1000", a.receiver.W, append(single(999, 0), list(1998, 2000)...))
	expectTake(t, "the end with 1000 spans", many, fin(1, 0, 2500), true, api.OK)
}

// P21.3: the errors of spans.Add.
func TestTakeAdd(t *testing.T) {
	r := of(buffer(0, 100, -1, nil))
	r.S[1].Got = single(1000, 5)
	for _, at := range []int{0, 2005, 2010, 1 << 40} {
		expectTake(t, "the 1001st span, which touches none", r, data(1, at, 0, 3), false, api.ErrFull)
		expectTake(t, "the 1001st span, which touches none, of the end", r, fin(1, at, 0), false, api.ErrFull)
	}
	expectTake(t, "bytes that touch the last one", r, data(1, 2004, 0, 3), false, api.OK)
	expectTake(t, "bytes that join two", r, data(1, 6, 0, 1), false, api.OK)
	expectTake(t, "bytes that were received", r, data(1, 5, 0, 1), false, api.OK)
	expectTake(t, "another subflow", r, data(0, 2005, 0, 3), false, api.OK)

	r.S[1].Got = list(0, 1<<62-9)
	expectTake(t, "up to 2^62", r, data(1, 1<<62-9, 0, 9), false, api.OK)
	expectTake(t, "beyond 2^62", r, data(1, 1<<62-9, 0, 10), false, api.ErrArg)
	expectTake(t, "all before 2^62", r, data(1, 1<<62-20, 0, 20), false, api.OK)
	r.S[1].Got = list(0, 1<<62)
	expectTake(t, "the end before 2^62", r, fin(1, 1<<62-1, 0), false, api.OK)
	expectTake(t, "the end at 2^62", r, fin(1, 1<<62, 0), false, api.ErrArg)
	expectTake(t, "far beyond 2^62", r, data(1, 1<<62+100, 0, 1), false, api.ErrArg)
}

// P21.3: ErrOver for marks that cannot be counted.
func TestTakeOver(t *testing.T) {
	marksOf := func(packets, bytes int) api.Receiver {
		r := of(buffer(0, 100, -1, nil))
		r.S[2].M = api.Marks{Packets: packets, Bytes: bytes, Came: 3, Marked: 2, Part: 1}
		return r
	}
	x := data(2, 0, 0, 10)
	end := fin(2, 0, 5)
	a := expectTake(t, "the last packet", marksOf(latest-1, 0), x, true, api.OK)
	expectEqual(t, "the last packet", a.receiver.S[2].M, api.Marks{Packets: latest, Bytes: 10, Came: 3, Marked: 2, Part: 1})
	a = expectTake(t, "the last bytes", marksOf(0, latest-10), x, true, api.OK)
	expectEqual(t, "the last bytes", a.receiver.S[2].M, api.Marks{Packets: 1, Bytes: latest, Came: 3, Marked: 2, Part: 1})
	expectTake(t, "one packet too many", marksOf(latest, 0), x, true, api.ErrOver)
	expectTake(t, "one byte too many", marksOf(0, latest-9), x, true, api.ErrOver)
	expectTake(t, "all at most", marksOf(latest, latest), x, true, api.ErrOver)
	expectTake(t, "all at most, not marked", marksOf(latest, latest), x, false, api.OK)
	expectTake(t, "all at most, another subflow", marksOf(latest, latest), data(1, 0, 0, 10), true, api.OK)
	expectTake(t, "the end as the last one", marksOf(latest-1, latest-1), end, true, api.OK)
	expectTake(t, "the end as one packet too many", marksOf(latest, 0), end, true, api.ErrOver)
	expectTake(t, "the end as one byte too many", marksOf(0, latest), end, true, api.ErrOver)
	expectTake(t, "bytes that had come count again", with(marksOf(5, latest), func(r *api.Receiver) { r.S[2].Got = list(0, 10) }), x, true, api.ErrOver)
}

// P21.3: of two errors the one of the earlier step is returned.
func TestTakeFirst(t *testing.T) {
	many := func(w api.Weave) api.Receiver {
		r := of(w)
		r.S[1] = api.Inlet{Got: single(1000, 5), M: api.Marks{Packets: latest, Bytes: latest}}
		return r
	}
	far := func(w api.Weave) api.Receiver {
		r := of(w)
		r.S[1] = api.Inlet{Got: list(0, 1<<62), M: api.Marks{Packets: latest}}
		return r
	}
	over := func(w api.Weave) api.Receiver {
		r := of(w)
		r.S[1].M.Bytes = latest
		return r
	}
	open, shut := buffer(50, 100, -1, list(60, 70)), buffer(50, 100, 80, list(60, 70))
	last, many1000 := buffer(furthest, 100, -1, nil), buffer(0, 3000, -1, single(1000, 0))
	type call struct {
		r api.Receiver
		x api.Seg
		e api.Errno
	}
	cases := []struct {
		why        string
		both, next call // next has the second one of the reasons alone
	}{
		{"the edge before Put", call{of(shut), data(1, 0, 150, 1), api.ErrFull}, call{of(shut), data(1, 0, 149, 1), api.ErrOver}},
		{"the edge before Add", call{far(open), data(1, 1<<62, 150, 1), api.ErrFull}, call{far(open), data(1, 1<<62, 149, 1), api.ErrArg}},
		{"the edge before marks", call{over(open), data(1, 0, 150, 1), api.ErrFull}, call{over(open), data(1, 0, 149, 1), api.ErrOver}},
		{"Put before Add", call{many(shut), data(1, 0, 80, 1), api.ErrOver}, call{many(shut), data(1, 0, 79, 1), api.ErrFull}},
		{"Put before Add beyond 2^62", call{far(shut), data(1, 1<<62, 80, 1), api.ErrOver}, call{far(shut), data(1, 1<<62, 79, 1), api.ErrArg}},
		{"Put before marks", call{over(many1000), data(1, 0, 2000, 1), api.ErrFull}, call{over(many1000), data(1, 0, 1999, 1), api.ErrOver}},
		{"Shut before Add", call{many(open), fin(1, 0, 69), api.ErrOver}, call{many(open), fin(1, 0, 70), api.ErrFull}},
		{"Shut of another end before Add", call{far(shut), fin(1, 1<<62, 81), api.ErrOver}, call{far(shut), fin(1, 1<<62, 80), api.ErrArg}},
		{"Shut beyond 2^61 before Add", call{many(last), fin(1, 0, furthest+1), api.ErrArg}, call{many(last), fin(1, 0, furthest), api.ErrFull}},
		{"Shut beyond 2^61 before marks", call{over(last), fin(1, 0, furthest+1), api.ErrArg}, call{over(last), fin(1, 0, furthest), api.ErrOver}},
		{"Add before marks", call{many(open), data(1, 0, 50, 3), api.ErrFull}, call{many(open), data(1, 5, 50, 1), api.ErrOver}},
		{"Add beyond 2^62 before marks", call{far(open), data(1, 1<<62, 50, 3), api.ErrArg}, call{far(open), data(1, 1<<62-3, 50, 3), api.ErrOver}},
		{"Add of the end before marks", call{many(shut), fin(1, 0, 80), api.ErrFull}, call{many(shut), fin(1, 5, 80), api.ErrOver}},
	}
	for _, c := range cases {
		expectTake(t, c.why, c.both.r, c.both.x, true, c.both.e)
		expectTake(t, c.why+": the next one alone", c.next.r, c.next.x, true, c.next.e)
		if c.both.e == c.next.e {
			t.Errorf("%s: the errors are the same", c.why)
		}
	}
}

// P21.3, P21.5: bytes that have come, or were read, are kept as they are.
func TestTakeAgain(t *testing.T) {
	other := func(sub, seq, dsn, n int) api.Seg {
		return altered(data(sub, seq, dsn, n), func(x *api.Seg) {
			for i := range x.B {
				x.B[i] ^= 85
			}
		})
	}
	r := of(buffer(100, 200, -1, list(110, 120, 130, 140)))
	r.S[0].Got = list(10, 20)
	same := func(why string, x api.Seg, got []api.Span) {
		t.Helper()
		a := expectTake(t, why, r, x, true, api.OK)
		expectText(t, why, a.receiver.W, r.W.Got)
		expectEqual(t, why, a.receiver.S[0], api.Inlet{Got: got, M: api.Marks{Packets: 1, Bytes: len(x.B)}})
	}
	same("as a whole", other(0, 10, 110, 10), list(10, 20))
	same("some of them", other(0, 12, 113, 4), list(10, 20))
	same("at another position of the subflow", other(0, 50, 110, 10), list(10, 20, 50, 60))
	same("read before", other(0, 0, 80, 10), list(0, 20))
	same("read just before", other(0, 5, 90, 10), list(5, 20))

	x := altered(other(0, 10, 105, 40), func(x *api.Seg) {
		for _, i := range []int{0, 1, 2, 3, 4, 15, 16, 17, 18, 19, 20, 21, 22, 23, 24, 35, 36, 37, 38, 39} {
			x.B[i] ^= 85 // where they are missing, they are the text
		}
	})
	a := expectTake(t, "in part", r, x, false, api.OK)
	expectText(t, "in part", a.receiver.W, list(105, 145))
	x = altered(other(0, 10, 90, 25), func(x *api.Seg) {
		for i := 10; i < 20; i++ {
			x.B[i] ^= 85
		}
	})
	a = expectTake(t, "read in part", r, x, false, api.OK)
	expectText(t, "read in part", a.receiver.W, list(100, 120, 130, 140))
	if a.seg.Dgot != 120 {
		t.Errorf("read in part: Dgot %d", a.seg.Dgot)
	}

	a = expectTake(t, "behind the end", read(), other(0, 0, 90, 10), false, api.OK)
	expectEqual(t, "behind the end", a.receiver, read())
	a = expectTake(t, "the end again", read(), fin(1, 7, 100), false, api.OK)
	expectEqual(t, "the end again", a.receiver.W, read().W)
	if a.seg.Dgot != 101 || a.seg.Win != 99 || !sameSacks(a.seg.Sacks, 7, 8) {
		t.Errorf("the end again: %+v", a.seg)
	}
}

// sameSacks reports whether there is one Sack, with these ends.
func sameSacks(l []api.Pair, from, upto uint32) bool {
	return len(l) == 1 && l[0] == api.Pair{From: from, Upto: upto}
}

// P21.3: marked packets, and their bytes.
func TestTakeMarked(t *testing.T) {
	r := middle()
	r.S[3].M = api.Marks{Packets: 7, Bytes: 1<<24 - 1, Came: 9, Marked: 8, Part: 7}
	cases := []struct {
		why            string
		x              api.Seg
		marked         bool
		packets, bytes int
		ace            int
		ce             uint32
	}{
		{"not marked", data(3, 0, 5010, 5), false, 7, 1<<24 - 1, 7, 1<<24 - 1},
		{"marked", data(3, 0, 5010, 5), true, 8, 1<<24 + 4, 0, 4},
		{"one byte, marked", data(3, 0, 5010, 1), true, 8, 1 << 24, 0, 0},
		{"the end, not marked", fin(3, 0, 5100), false, 7, 1<<24 - 1, 7, 1<<24 - 1},
		{"the end, marked", fin(3, 0, 5100), true, 8, 1 << 24, 0, 0},
		{"bytes that are there, marked", data(3, 0, 5000, 10), true, 8, 1<<24 + 9, 0, 9},
	}
	for _, c := range cases {
		a := expectTake(t, c.why, r, c.x, c.marked, api.OK)
		expectEqual(t, c.why, a.receiver.S[3].M, api.Marks{Packets: c.packets, Bytes: c.bytes, Came: 9, Marked: 8, Part: 7})
		if a.seg.Ace != c.ace || a.seg.Ce != c.ce {
			t.Errorf("%s: Ace %d, Ce %d", c.why, a.seg.Ace, a.seg.Ce)
		}
	}
}
