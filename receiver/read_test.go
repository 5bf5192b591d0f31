package receiver_test

import (
	"fmt"
	"math"
	"testing"

	"fourinhand/api"
	"fourinhand/receiver"
)

// P21.4: Read returns up to n of the bytes that are ready; nothing but W is changed.
func TestRead(t *testing.T) {
	r := middle() // 10 bytes are ready
	for _, n := range []int{0, 1, 2, 9, 10, 11, 50, 100, 1 << 62, math.MaxInt} {
		why := fmt.Sprint("n ", n)
		some := min(n, 10)
		a := expectRead(t, why, r, n, text(5000, some), api.OK)
		expectEqual(t, why, a.receiver, with(r, func(r *api.Receiver) {
			r.W.Base += some
			r.W.B = r.W.B[some:]
			r.W.Got[0].From += some
			if some == 10 {
				r.W.Got = r.W.Got[1:]
			}
		}))
	}
	for _, n := range []int{-1, -2, math.MinInt} {
		expectRead(t, fmt.Sprint("n ", n), r, n, nil, api.ErrArg)
	}
}

// P21.4: where there is nothing to read.
func TestReadNothing(t *testing.T) {
	for why, r := range map[string]api.Receiver{
		"nothing received": sure(receiver.New(10)),
		"behind a gap":     of(buffer(50, 100, -1, list(51, 60))),
		"no space":         of(buffer(50, 0, -1, nil)),
		"behind the end":   read(),
		"the end alone":    of(buffer(0, 10, 0, nil)),
		"the end is far":   of(buffer(50, 100, 1<<40, nil)),
	} {
		for _, n := range []int{0, 1, 1000, math.MaxInt} {
			a := expectRead(t, why, r, n, nil, api.OK)
			expectEqual(t, why, a.receiver, r)
		}
		expectRead(t, why, r, -1, nil, api.ErrArg)
	}
}

// P21.4, P21.1: reading up to the end.
func TestReadEnd(t *testing.T) {
	r := ended() // 10 bytes, and the end
	a := expectRead(t, "all but one", r, 9, text(90, 9), api.OK)
	if receiver.Over(a.receiver) {
		t.Error("over before the last byte")
	}
	a = expectRead(t, "the last one", a.receiver, 9, text(99, 1), api.OK)
	expectEqual(t, "the last one", a.receiver, read())
	if !receiver.Over(a.receiver) {
		t.Error("not over")
	}
	a = expectRead(t, "behind the end", a.receiver, 9, nil, api.OK)
	if !receiver.Over(a.receiver) {
		t.Error("not over any more")
	}
	a = expectRead(t, "at once", r, 10, text(90, 10), api.OK)
	expectEqual(t, "at once", a.receiver, read())
}

// P21.4, P21.2: reading makes space, and what was acknowledged remains so.
func TestReadSpace(t *testing.T) {
	r := of(buffer(0, 20, -1, list(0, 20)))
	r.S[0].Got = list(0, 20)
	expectTake(t, "no space", r, data(0, 20, 20, 1), false, api.ErrFull)
	a := expectRead(t, "one", r, 1, text(0, 1), api.OK)
	expectTold(t, "one read", a.receiver, 0, 5, api.Seg{Kind: api.Ack, Ecn: true, Got: 20, Dgot: 20, Win: 1, Echo: 5}, api.OK)
	a = expectTake(t, "space for one", a.receiver, data(0, 20, 20, 1), false, api.OK)
	expectTake(t, "no space for one more", a.receiver, data(0, 21, 21, 1), false, api.ErrFull)
	a = expectRead(t, "the rest", a.receiver, 99, text(1, 20), api.OK)
	expectTold(t, "all read", a.receiver, 0, 5, api.Seg{Kind: api.Ack, Ecn: true, Got: 21, Dgot: 21, Win: 20, Echo: 5}, api.OK)
	expectTake(t, "read before", a.receiver, data(0, 0, 0, 20), false, api.OK)
}
