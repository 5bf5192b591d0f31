package receiver_test

import (
	"fmt"
	"math"
	"testing"

	"fourinhand/api"
	"fourinhand/receiver"
)

// furthest is the greatest position of the stream, and the greatest edge; latest is the greatest count of marks.
const (
	furthest = 1 << 61
	latest   = 1 << 60
)

// turn is how far two positions of which the same is transmitted are apart at least.
const turn = 1 << 32

// with returns r, changed, with lists of its own.
func with(r api.Receiver, change func(r *api.Receiver)) api.Receiver {
	r = owned(r)
	change(&r)
	return r
}

// text returns the n bytes from a position on, each of which depends on its position; none is 0.
func text(from, n int) []byte {
	b := make([]byte, n)
	for i := range b {
		b[i] = byte(((from+i)*7+(from+i)/255)%255) + 1
	}
	return b
}

// list returns the spans that have these ends.
func list(ends ...int) []api.Span {
	var l []api.Span
	for i := 0; i < len(ends); i += 2 {
		l = append(l, api.Span{From: ends[i], Upto: ends[i+1]})
	}
	return l
}

// pairs returns the pairs that have these ends.
func pairs(ends ...uint32) []api.Pair {
	var l []api.Pair
	for i := 0; i < len(ends); i += 2 {
		l = append(l, api.Pair{From: ends[i], Upto: ends[i+1]})
	}
	return l
}

// single returns n spans of one position, each second one from a position on.
func single(n, from int) []api.Span {
	var l []api.Span
	for i := range n {
		l = append(l, api.Span{From: from + 2*i, Upto: from + 2*i + 1})
	}
	return l
}

// buffer returns a receive buffer that has the text at these positions.
func buffer(base, cap, end int, got []api.Span) api.Weave {
	w := api.Weave{Base: base, Cap: cap, End: end, Got: got}
	for _, s := range got {
		w.B = append(w.B, make([]byte, s.From-base-len(w.B))...)
		w.B = append(w.B, text(s.From, s.Upto-s.From)...)
	}
	return w
}

// of returns a receiver with this receive buffer, of which no subflow has received anything.
func of(w api.Weave) api.Receiver { return api.Receiver{W: w} }

// middle is a valid receiver in which most lists have elements.
func middle() api.Receiver {
	r := of(buffer(5000, 1000, -1, list(5000, 5010, 5020, 5030, 5050, 5100)))
	r.S[0] = api.Inlet{Got: list(0, 100, 150, 200, 220, 230, 300, 310, 400, 410), M: api.Marks{Packets: 9, Bytes: 1<<24 + 50, Came: 30, Marked: 20, Part: 1000}}
	r.S[1] = api.Inlet{Got: list(10, 20), M: api.Marks{Packets: 7, Bytes: 70}}
	r.S[2].Got = list(0, turn+5, turn+10, turn+20)
	return r
}

// ended is a valid receiver that has all bytes up to the end.
func ended() api.Receiver {
	r := of(buffer(90, 100, 100, list(90, 100)))
	r.S[0].Got = list(0, 101)
	return r
}

// read is a valid receiver of which all bytes were read.
func read() api.Receiver {
	r := ended()
	r.W = buffer(100, 100, 100, nil)
	return r
}

// data returns the segment with the text of n bytes from dsn on, at a position of a subflow.
func data(sub, seq, dsn, n int) api.Seg {
	return api.Seg{Kind: api.Data, Sub: sub, Seq: lowBy(seq), Dsn: lowBy(dsn), At: 77, B: text(dsn, n)}
}

// fin returns the segment with the end, which is at dsn.
func fin(sub, seq, dsn int) api.Seg {
	x := data(sub, seq, dsn, 0)
	x.Fin = true
	return x
}

// altered returns x, changed, with lists of its own.
func altered(x api.Seg, change func(x *api.Seg)) api.Seg {
	x = owned(x)
	change(&x)
	return x
}

// unlike returns receivers that are not valid, each for one reason alone.
func unlike() map[string]api.Receiver {
	all := map[string]api.Receiver{}
	add := func(why string, change func(r *api.Receiver)) { all[why] = with(middle(), change) }
	add("Cap -1", func(r *api.Receiver) { r.W = buffer(0, -1, -1, nil) })
	add("Cap 65537", func(r *api.Receiver) { r.W.Cap = 65537 })
	add("Base -1", func(r *api.Receiver) { r.W = buffer(-1, 10, -1, nil) })
	add("Base beyond 2^61", func(r *api.Receiver) { r.W = buffer(furthest+1, 0, -1, nil) })
	add("a span before Base", func(r *api.Receiver) { r.W.Base++; r.W.B = r.W.B[1:] })
	add("a span beyond the edge", func(r *api.Receiver) { r.W.Cap = 99 })
	add("a byte too few", func(r *api.Receiver) { r.W.B = r.W.B[:99] })
	add("a byte too many", func(r *api.Receiver) { r.W.B = append(r.W.B, 0) })
	add("a byte in a gap", func(r *api.Receiver) { r.W.B[10] = 1 })
	add("End -2", func(r *api.Receiver) { r.W.End = -2 })
	add("End before the last byte", func(r *api.Receiver) { r.W.End = 5099 })
	add("an empty span in W", func(r *api.Receiver) { r.W = buffer(0, 10, -1, nil); r.W.Got = list(0, 0) })
	for i := range api.Subs {
		named := func(what string, change func(s *api.Inlet)) {
			add(fmt.Sprint("subflow ", i, ": ", what), func(r *api.Receiver) { change(&r.S[i]) })
		}
		named("a span from -1 on", func(s *api.Inlet) { s.Got = list(-1, 5) })
		named("an empty span", func(s *api.Inlet) { s.Got = list(5, 5) })
		named("a span beyond 2^62", func(s *api.Inlet) { s.Got = list(5, 1<<62+1) })
		named("spans that touch", func(s *api.Inlet) { s.Got = list(0, 5, 5, 9) })
		named("spans out of order", func(s *api.Inlet) { s.Got = list(8, 9, 0, 5) })
		named("1001 spans", func(s *api.Inlet) { s.Got = single(1001, 0) })
		named("Packets -1", func(s *api.Inlet) { s.M.Packets = -1 })
		named("Packets beyond 2^60", func(s *api.Inlet) { s.M.Packets = latest + 1 })
		named("Bytes -1", func(s *api.Inlet) { s.M.Bytes = -1 })
		named("Bytes beyond 2^60", func(s *api.Inlet) { s.M.Bytes = latest + 1 })
		named("Came beyond 2^60", func(s *api.Inlet) { s.M.Came = latest + 1 })
		named("Marked above Came", func(s *api.Inlet) { s.M.Came, s.M.Marked = 5, 6 })
		named("Part 1025", func(s *api.Inlet) { s.M.Part = 1025 })
	}
	return all
}

// P21.1: New.
func TestNew(t *testing.T) {
	for _, room := range []int{0, 1, 1000, 65535, 65536} {
		r, e := receiver.New(room)
		if want := (api.Receiver{W: api.Weave{Cap: room, End: -1}}); e != api.OK {
			t.Errorf("room %d: error %d", room, e)
		} else {
			expectEqual(t, fmt.Sprint("room ", room), r, want)
		}
		if !receiver.May(r) || receiver.Over(r) {
			t.Errorf("room %d: not a receiver that begins", room)
		}
	}
	for _, room := range []int{-1, -2, math.MinInt, 65537, 65538, 1 << 62, math.MaxInt} {
		r, e := receiver.New(room)
		expectSame(t, fmt.Sprint("room ", room), answer{receiver: r, e: e}, answer{e: api.ErrArg})
	}
}

// P21.1: two receivers that begin share nothing.
func TestNewAgain(t *testing.T) {
	r := sure(receiver.New(100))
	a := expectTake(t, "the first", r, data(0, 0, 0, 10), true, api.OK)
	spoil(a.receiver)
	expectEqual(t, "the second", sure(receiver.New(100)), r)
}

// expectMay checks what May reports, and that it changes nothing.
func expectMay(t *testing.T, why string, r api.Receiver, want bool) {
	t.Helper()
	r1 := owned(r)
	before := plain(whole(r1))
	if got := receiver.May(r1); got != want || isValid(r) != want {
		t.Errorf("%s: May is %v", why, got)
	}
	expectEqual(t, why+": what was given", whole(r1), before)
}

// P21.1: May.
func TestMay(t *testing.T) {
	valid := map[string]api.Receiver{
		"all zero":    {}, // its end is at 0
		"middle":      middle(),
		"ended":       ended(),
		"read":        read(),
		"at the last": of(buffer(furthest, 65536, furthest, nil)),
		"a far end":   of(buffer(0, 10, math.MaxInt, nil)),
		"1000 spans":  {W: buffer(0, 2000, -1, single(1000, 0)), S: [4]api.Inlet{{Got: single(1000, 0)}, {Got: single(1000, 1)}, {Got: list(0, 1<<62)}}},
		"marks at most": with(middle(), func(r *api.Receiver) {
			r.S[3].M = api.Marks{Packets: latest, Bytes: latest, Came: latest, Marked: latest, Part: 1024}
		}),
		"bytes that are": {W: api.Weave{Cap: 5, End: 2, Got: list(0, 2), B: []byte{0, 0}}},
	}
	for why, r := range valid {
		expectMay(t, why, r, true)
	}
	for why, r := range unlike() {
		expectMay(t, why, r, false)
	}
}

// P21.1: Over.
func TestOver(t *testing.T) {
	cases := []struct {
		why  string
		r    api.Receiver
		over bool
	}{
		{"nothing received", sure(receiver.New(10)), false},
		{"the end not known", middle(), false},
		{"all bytes read, the end not known", of(buffer(100, 10, -1, nil)), false},
		{"the end known, bytes missing", of(buffer(90, 20, 100, nil)), false},
		{"the end known, nothing read", ended(), false},
		{"one byte not read", of(buffer(99, 20, 100, list(99, 100))), false},
		{"all read", read(), true},
		{"no bytes at all", of(buffer(0, 10, 0, nil)), true},
		{"all zero", api.Receiver{}, true},
		{"a W that is not valid", of(buffer(-1, 10, -1, nil)), false},
		{"a W that is not valid for its Cap", of(buffer(0, -1, 0, nil)), false},
		{"all read, a subflow that is not valid", with(read(), func(r *api.Receiver) { r.S[1].Got = list(5, 5) }), true},
	}
	for _, c := range cases {
		r := owned(c.r)
		before := plain(whole(r))
		if receiver.Over(r) != c.over {
			t.Errorf("%s: Over is %v", c.why, !c.over)
		}
		expectEqual(t, c.why+": what was given", whole(r), before)
	}
}

// P1: no call panics, whatever it is given; with a receiver that is not valid each one returns ErrArg.
func TestNotValid(t *testing.T) {
	for why, r := range unlike() {
		for sub := range api.Subs {
			expectTake(t, why, r, data(sub, 0, 0, 10), true, api.ErrArg)
			expectTake(t, why, r, fin(sub, 0, 0), false, api.ErrArg)
			expectTold(t, why, r, sub, 5, api.Seg{}, api.ErrArg)
		}
		expectTake(t, why, r, api.Seg{}, false, api.ErrArg)
		expectTold(t, why, r, -1, 5, api.Seg{}, api.ErrArg)
		for _, n := range []int{-1, 0, 5} {
			expectRead(t, why, r, n, nil, api.ErrArg)
		}
	}
}

// P1: wild arguments.
func TestWild(t *testing.T) {
	wild := []int{math.MinInt, -1 << 62, -1, 0, 1, furthest, 1 << 62, math.MaxInt}
	for _, n := range wild {
		for _, m := range wild {
			receivers := []api.Receiver{
				of(api.Weave{Base: n, Cap: m}),
				of(api.Weave{Base: n, Cap: 10, End: m}),
				of(api.Weave{Base: 0, Cap: m, End: n, Got: list(n, m), B: make([]byte, 5)}),
				{S: [4]api.Inlet{{Got: list(n, m)}, {}, {}, {M: api.Marks{Packets: n, Bytes: m}}}},
				{W: api.Weave{Base: furthest, Cap: 10, End: -1}, S: [4]api.Inlet{{Got: list(0, 1<<62)}}},
				{W: api.Weave{Cap: 10, End: n}, S: [4]api.Inlet{{M: api.Marks{Packets: latest, Bytes: m}}}},
			}
			for i, r := range receivers {
				why := fmt.Sprint(n, " ", m, " ", i)
				x := api.Seg{Kind: api.Data, Sub: 0, Seq: uint32(n), Dsn: uint32(m), B: text(0, 3)}
				odd := api.Seg{Kind: n, Sub: m, Win: n, Ace: m, Ce: uint32(n), Sacks: make([]api.Pair, 300), B: make([]byte, 3000)}
				expectMay(t, why, r, isValid(r))
				expectSame(t, why, takes(r, x, true), takesBy(r, x, true))
				expectSame(t, why, takes(r, odd, false), takesBy(r, odd, false))
				x.B, x.Fin = nil, true
				expectSame(t, why, takes(r, x, true), takesBy(r, x, true))
				expectSame(t, why, tells(r, n, uint32(m)), tellsBy(r, n, uint32(m)))
				expectSame(t, why, tells(r, 0, uint32(m)), tellsBy(r, 0, uint32(m)))
				expectSame(t, why, reads(r, n), readsBy(r, n))
				receiver.Over(r)
			}
		}
	}
}

// P21.2, P21.3: the document's example.
func TestExample(t *testing.T) {
	r := sure(receiver.New(100))
	a := expectTake(t, "bytes at 10", r, data(0, 10, 10, 10), false, api.OK)
	expectEqual(t, "bytes at 10", a.seg, api.Seg{Kind: api.Ack, Ecn: true, Win: 100, Echo: 77, Sacks: pairs(10, 20)})
	a = expectTake(t, "the bytes at 0", a.receiver, data(0, 0, 0, 10), false, api.OK)
	expectEqual(t, "the bytes at 0", a.seg, api.Seg{Kind: api.Ack, Ecn: true, Got: 20, Dgot: 20, Win: 80, Echo: 77})
}
