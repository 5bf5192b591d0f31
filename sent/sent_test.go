package sent_test

import (
	"math"
	"slices"
	"testing"

	"fourinhand/api"
	"fourinhand/sent"
)

const last = 1 << 60 // the greatest Seq, Dsn, At, Total and Last

// part returns a part that was sent once.
func part(seq, length int) api.Sent {
	return api.Sent{Seq: seq, Len: length, Dsn: 5000 + seq%1000, At: 70 + seq%50, Tries: 1, Total: 300, Last: 60}
}

// came returns x as it is when it is told to have come.
func came(x api.Sent) api.Sent {
	x.Came, x.Lost = true, false
	return x
}

// lost returns x as it is when it is taken for lost.
func lost(x api.Sent) api.Sent {
	x.Came, x.Lost = false, true
	return x
}

// row returns parts of these lengths, the first one from seq on.
func row(seq int, lengths ...int) []api.Sent {
	var l []api.Sent
	for _, n := range lengths {
		l = append(l, part(seq, n))
		seq += n
	}
	return l
}

// tens returns n parts of 10 bytes from 100 on.
func tens(n int) []api.Sent { return row(100, slices.Repeat([]int{10}, n)...) }

// with returns l with x in the place i.
func with(l []api.Sent, i int, x api.Sent) []api.Sent {
	l = slices.Clone(l)
	l[i] = x
	return l
}

// sacks returns the spans from the first number up to the second one, from the third one up to the fourth one, and so on.
func sacks(ends ...int) []api.Span {
	var l []api.Span
	for i := 0; i < len(ends); i += 2 {
		l = append(l, api.Span{From: ends[i], Upto: ends[i+1]})
	}
	return l
}

// validParts returns valid parts from 20 on, and one each with the smallest and the greatest value of each field.
func validParts() map[string]api.Sent {
	change := func(f func(x *api.Sent)) api.Sent {
		x := part(20, 10)
		f(&x)
		return x
	}
	return map[string]api.Sent{
		"ordinary":         part(20, 10),
		"a Seq of 0":       change(func(x *api.Sent) { x.Seq = 0 }),
		"a Seq of 2^60":    change(func(x *api.Sent) { x.Seq = last }),
		"a Dsn of 0":       change(func(x *api.Sent) { x.Dsn = 0 }),
		"a Dsn of 2^60":    change(func(x *api.Sent) { x.Dsn = last }),
		"an At of 0":       change(func(x *api.Sent) { x.At = 0 }),
		"an At of 2^60":    change(func(x *api.Sent) { x.At = last }),
		"a Total of 0":     change(func(x *api.Sent) { x.Total = 0 }),
		"a Total of 2^60":  change(func(x *api.Sent) { x.Total = last }),
		"a Last of 0":      change(func(x *api.Sent) { x.Last = 0 }),
		"a Last of 2^60":   change(func(x *api.Sent) { x.Last = last }),
		"a Len of 1":       change(func(x *api.Sent) { x.Len = 1 }),
		"a Len of 1460":    change(func(x *api.Sent) { x.Len = 1460 }),
		"Tries of 1":       change(func(x *api.Sent) { x.Tries = 1 }),
		"Tries of 1000":    change(func(x *api.Sent) { x.Tries = 1000 }),
		"Came":             change(func(x *api.Sent) { x.Came = true }),
		"Lost":             change(func(x *api.Sent) { x.Lost = true }),
		"all the smallest": {Len: 1, Tries: 1},
		"all the greatest": {Seq: last, Len: 1460, Dsn: last, At: last, Tries: 1000, Total: last, Last: last},
	}
}

// invalidParts returns parts from 20 on that are not valid because of one field, and why they are that.
func invalidParts() map[string]api.Sent {
	change := func(f func(x *api.Sent)) api.Sent {
		x := part(20, 10)
		f(&x)
		return x
	}
	return map[string]api.Sent{
		"a Seq of -1":         change(func(x *api.Sent) { x.Seq = -1 }),
		"a Seq of 2^60 + 1":   change(func(x *api.Sent) { x.Seq = last + 1 }),
		"the least Seq":       change(func(x *api.Sent) { x.Seq = math.MinInt }),
		"the greatest Seq":    change(func(x *api.Sent) { x.Seq = math.MaxInt }),
		"a Dsn of -1":         change(func(x *api.Sent) { x.Dsn = -1 }),
		"a Dsn of 2^60 + 1":   change(func(x *api.Sent) { x.Dsn = last + 1 }),
		"the least Dsn":       change(func(x *api.Sent) { x.Dsn = math.MinInt }),
		"the greatest Dsn":    change(func(x *api.Sent) { x.Dsn = math.MaxInt }),
		"an At of -1":         change(func(x *api.Sent) { x.At = -1 }),
		"an At of 2^60 + 1":   change(func(x *api.Sent) { x.At = last + 1 }),
		"the least At":        change(func(x *api.Sent) { x.At = math.MinInt }),
		"the greatest At":     change(func(x *api.Sent) { x.At = math.MaxInt }),
		"a Total of -1":       change(func(x *api.Sent) { x.Total = -1 }),
		"a Total of 2^60 + 1": change(func(x *api.Sent) { x.Total = last + 1 }),
		"the least Total":     change(func(x *api.Sent) { x.Total = math.MinInt }),
		"the greatest Total":  change(func(x *api.Sent) { x.Total = math.MaxInt }),
		"a Last of -1":        change(func(x *api.Sent) { x.Last = -1 }),
		"a Last of 2^60 + 1":  change(func(x *api.Sent) { x.Last = last + 1 }),
		"the least Last":      change(func(x *api.Sent) { x.Last = math.MinInt }),
		"the greatest Last":   change(func(x *api.Sent) { x.Last = math.MaxInt }),
		"a Len of 0":          change(func(x *api.Sent) { x.Len = 0 }),
		"a Len of -1":         change(func(x *api.Sent) { x.Len = -1 }),
		"a Len of 1461":       change(func(x *api.Sent) { x.Len = 1461 }),
		"the least Len":       change(func(x *api.Sent) { x.Len = math.MinInt }),
		"the greatest Len":    change(func(x *api.Sent) { x.Len = math.MaxInt }),
		"Tries of 0":          change(func(x *api.Sent) { x.Tries = 0 }),
		"Tries of -1":         change(func(x *api.Sent) { x.Tries = -1 }),
		"Tries of 1001":       change(func(x *api.Sent) { x.Tries = 1001 }),
		"the least Tries":     change(func(x *api.Sent) { x.Tries = math.MinInt }),
		"the greatest Tries":  change(func(x *api.Sent) { x.Tries = math.MaxInt }),
		"Came and Lost":       change(func(x *api.Sent) { x.Came, x.Lost = true, true }),
		"the zero value":      {},
	}
}

// validLists returns valid lists.
func validLists() map[string][]api.Sent {
	return map[string][]api.Sent{
		"none":                            nil,
		"an empty list":                   {},
		"one part":                        row(20, 10),
		"one part from 0 on":              row(0, 10),
		"one part from 2^60 on":           row(last, 1460),
		"two parts":                       row(20, 10, 30),
		"two parts up to beyond 2^60":     row(last-5, 5, 1460),
		"parts of all lengths":            row(0, 1, 1460, 7, 1, 1, 1460),
		"a part that came, first":         with(tens(4), 0, came(part(100, 10))),
		"a part that came, in the middle": with(tens(4), 2, came(part(120, 10))),
		"a part that came, last":          with(tens(4), 3, came(part(130, 10))),
		"a part that is lost":             with(tens(4), 1, lost(part(110, 10))),
		"all came":                        {came(part(20, 10)), came(part(30, 10))},
		"all lost":                        {lost(part(20, 10)), lost(part(30, 10))},
		"499 parts":                       tens(499),
		"500 parts":                       tens(500),
		"500 parts of 1460 bytes":         row(0, slices.Repeat([]int{1460}, 500)...),
		"500 parts of one byte":           row(last-499, slices.Repeat([]int{1}, 500)...),
	}
}

// invalidLists returns lists that are not valid, and why they are that.
func invalidLists() map[string][]api.Sent {
	lists := map[string][]api.Sent{
		"501 parts":                             tens(501),
		"502 parts":                             tens(502),
		"1000 parts":                            tens(1000),
		"500 parts, of which the last is wrong": with(tens(500), 499, part(5090, 1461)),
		"twice the same part":                   {part(20, 10), part(20, 10)},
		"parts that fall":                       {part(30, 10), part(20, 10)},
		"the last Seq is 2^60 + 1":              row(last-5, 6, 10),
		"an end that is beyond what ints are":   {part(20, 10), {Seq: math.MaxInt, Len: 1460, Tries: 1}, part(math.MinInt+1459, 10)},
	}
	for i, place := range []string{"first", "second", "third", "last"} {
		for why, x := range invalidParts() {
			if x.Seq == 20 { // what is wrong is not its Seq
				x.Seq = 100 + 10*i
			}
			if x.Len < 1 || x.Len > 1460 {
				// The part behind begins where this one ends, so that nothing but the length is wrong.
				l := append(tens(i), x)
				lists[why+", "+place] = append(l, row(x.Seq+x.Len, 10)...)
				continue
			}
			lists[why+", "+place] = with(tens(4), i, x)
		}
		if i == 0 {
			continue
		}
		for why, by := range map[string]int{"overlaps by one": -1, "leaves a gap of one": 1, "is far away": 1000} {
			l := tens(i)
			lists[why+", "+place] = append(l, row(100+10*i+by, slices.Repeat([]int{10}, 4-i)...)...)
		}
	}
	return lists
}

// isValidPart reports whether the document calls x valid.
func isValidPart(x api.Sent) bool {
	for _, n := range []int{x.Seq, x.Dsn, x.At, x.Total, x.Last} {
		if n < 0 || n > last {
			return false
		}
	}
	if x.Len < 1 || x.Len > 1460 || x.Tries < 1 || x.Tries > 1000 {
		return false
	}
	return !x.Came || !x.Lost
}

// isValid reports whether the document calls l valid.
func isValid(l []api.Sent) bool {
	for i, x := range l {
		if !isValidPart(x) || i > 0 && x.Seq != l[i-1].Seq+l[i-1].Len {
			return false
		}
	}
	return len(l) <= 500
}

// dice returns a function that returns numbers from 0 on below n, which depend on the seed only.
func dice(seed int) func(n int) int {
	state := uint64(seed)*2862933555777941757 + 3037000493
	return func(n int) int {
		state = state*6364136223846793005 + 1442695040888963407
		return int(state>>3) % n
	}
}

// short returns l, or what it begins with, to be told of.
func short(l []api.Sent) []api.Sent { return l[:min(len(l), 6)] }

// expectSpan checks Span and Flight.
func expectSpan(t *testing.T, why string, l []api.Sent, from, upto, flight int) {
	t.Helper()
	if s := sent.Span(l); s != (api.Span{From: from, Upto: upto}) {
		t.Errorf("%s: the span of %v is %v instead of %d to %d", why, short(l), s, from, upto)
	}
	if n := sent.Flight(l); n != flight {
		t.Errorf("%s: %d bytes of %v are in flight instead of %d", why, n, short(l), flight)
	}
}

// expectSend checks the results of a Send that succeeds.
func expectSend(t *testing.T, why string, l []api.Sent, x api.Sent) {
	t.Helper()
	got, e := sent.Send(l, x)
	if e != api.OK || len(got) != len(l)+1 || !slices.Equal(got[:len(l)], l) || got[len(l)] != x || !sent.May(got) {
		t.Errorf("%s: %v behind %v: %v %d", why, x, short(l), short(got), e)
	}
}

// expectSendError checks that Send returns an error and nothing else.
func expectSendError(t *testing.T, why string, l []api.Sent, x api.Sent, want api.Errno) {
	t.Helper()
	if got, e := sent.Send(l, x); e != want || len(got) > 0 {
		t.Errorf("%s: %v behind %v: %v %d instead of error %d", why, x, short(l), short(got), e, want)
	}
}

// expectAgain checks the results of an Again that succeeds, with the part at i changed to want.
func expectAgain(t *testing.T, why string, l []api.Sent, seq, at, i int, want api.Sent) {
	t.Helper()
	got, e := sent.Again(l, seq, at)
	if e != api.OK || !slices.Equal(got, with(l, i, want)) || !sent.May(got) {
		t.Errorf("%s: %d of %v again at %d: %v %d instead of %v", why, seq, short(l), at, short(got), e, want)
	}
}

// expectAgainError checks that Again returns an error and nothing else.
func expectAgainError(t *testing.T, why string, l []api.Sent, seq, at int, want api.Errno) {
	t.Helper()
	if got, e := sent.Again(l, seq, at); e != want || len(got) > 0 {
		t.Errorf("%s: %d of %v again at %d: %v %d instead of error %d", why, seq, short(l), at, short(got), e, want)
	}
}

// expectHeard checks the results of a Heard that succeeds.
func expectHeard(t *testing.T, why string, l []api.Sent, got int, come []api.Span, left, told []api.Sent) {
	t.Helper()
	a, b, e := sent.Heard(l, got, come)
	if e != api.OK || !slices.Equal(a, left) || !slices.Equal(b, told) || !sent.May(a) {
		t.Errorf("%s: %d and %v of %v:\n%v\n%v %d instead of\n%v\n%v", why, got, come, short(l), short(a), short(b), e, short(left), short(told))
	}
}

// expectHeardError checks that Heard returns an error and nothing else.
func expectHeardError(t *testing.T, why string, l []api.Sent, got int, come []api.Span, want api.Errno) {
	t.Helper()
	if a, b, e := sent.Heard(l, got, come); e != want || len(a) > 0 || len(b) > 0 {
		t.Errorf("%s: %d and %v of %v: %v %v %d instead of error %d", why, got, come, short(l), short(a), short(b), e, want)
	}
}

// P12.1, P12.2: each condition that makes a part valid, by itself.
func TestParts(t *testing.T) {
	for why, x := range validParts() {
		if l := []api.Sent{x}; !isValid(l) || !sent.May(l) {
			t.Errorf("%s: not valid", why)
		}
		expectSend(t, why, nil, x)
		expectSend(t, why, []api.Sent{}, x)
		flight := x.Len
		if x.Came || x.Lost {
			flight = 0
		}
		expectSpan(t, why, []api.Sent{x}, x.Seq, x.Seq+x.Len, flight)
	}
	for why, x := range invalidParts() {
		if l := []api.Sent{x}; isValid(l) || sent.May(l) {
			t.Errorf("%s: valid", why)
		}
		expectSendError(t, why, nil, x, api.ErrArg)
		expectSendError(t, why, []api.Sent{}, x, api.ErrArg)
		expectSpan(t, why, []api.Sent{x}, 0, 0, 0)
	}
}

// P12.1, P12.2: parts with numbers at the edges in each two of the fields, by the definition.
func TestPartEdges(t *testing.T) {
	edges := []int{math.MinInt, -1, 0, 1, 2, 999, 1000, 1001, 1459, 1460, 1461, last - 1, last, last + 1, math.MaxInt}
	fields := []func(x *api.Sent) *int{
		func(x *api.Sent) *int { return &x.Seq }, func(x *api.Sent) *int { return &x.Len }, func(x *api.Sent) *int { return &x.Dsn },
		func(x *api.Sent) *int { return &x.At }, func(x *api.Sent) *int { return &x.Tries }, func(x *api.Sent) *int { return &x.Total },
		func(x *api.Sent) *int { return &x.Last },
	}
	for _, f := range fields {
		for _, g := range fields {
			for _, n := range edges {
				for _, m := range edges {
					for state := range 4 {
						x := part(20, 10)
						x.Came, x.Lost = state&1 > 0, state&2 > 0
						*f(&x) = n
						*g(&x) = m
						if sent.May([]api.Sent{x}) != isValidPart(x) {
							t.Errorf("%v: May is %t", x, !isValidPart(x))
						}
						if _, e := sent.Send(nil, x); (e == api.OK) != isValidPart(x) {
							t.Errorf("%v: Send is %d", x, e)
						}
					}
				}
			}
		}
	}
}

// P12.1: valid lists, and their spans.
func TestLists(t *testing.T) {
	for why, l := range validLists() {
		if !isValid(l) || !sent.May(l) {
			t.Errorf("%s: not valid", why)
		}
		from, upto, flight := 0, 0, 0
		if len(l) > 0 {
			from, upto = l[0].Seq, l[len(l)-1].Seq+l[len(l)-1].Len
		}
		for _, x := range l {
			if !x.Came && !x.Lost {
				flight += x.Len
			}
		}
		expectSpan(t, why, l, from, upto, flight)
	}
}

// P12.1, P12.2, P12.3: lists that are not valid: May, zeros, and ErrArg whatever the other arguments are.
func TestInvalidLists(t *testing.T) {
	for why, l := range invalidLists() {
		if isValid(l) || sent.May(l) {
			t.Errorf("%s: valid", why)
		}
		expectSpan(t, why, l, 0, 0, 0)
		first, final := l[0], l[len(l)-1]
		behind := final.Seq + final.Len
		for _, n := range []int{math.MinInt, -1, 0, first.Seq, 110, 120, final.Seq, behind, behind + 1, last, last + 1, math.MaxInt} {
			expectSendError(t, why, l, part(n, 10), api.ErrArg)
			for _, at := range []int{-1, 0, 80, last, last + 1} {
				expectAgainError(t, why, l, n, at, api.ErrArg)
			}
			for _, come := range [][]api.Span{nil, sacks(110, 120), sacks(110, 120, 0, 5), sacks(0, 1<<62)} {
				expectHeardError(t, why, l, n, come, api.ErrArg)
			}
		}
	}
}

// P12.1: the span of no part, of one and of several, and the bytes in flight of parts that came, are lost, and are neither.
func TestSpanAndFlight(t *testing.T) {
	expectSpan(t, "no part", nil, 0, 0, 0)
	expectSpan(t, "one part", row(20, 7), 20, 27, 7)
	expectSpan(t, "one part from 0 on", row(0, 7), 0, 7, 7)
	expectSpan(t, "three parts", row(20, 7, 1460, 1), 20, 1488, 1468)
	expectSpan(t, "the furthest part", row(last, 1460), last, last+1460, 1460)
	a, b, c := part(20, 7), part(27, 50), part(77, 300)
	expectSpan(t, "the first one came", []api.Sent{came(a), b, c}, 20, 377, 350)
	expectSpan(t, "the second one came", []api.Sent{a, came(b), c}, 20, 377, 307)
	expectSpan(t, "the last one came", []api.Sent{a, b, came(c)}, 20, 377, 57)
	expectSpan(t, "the first one is lost", []api.Sent{lost(a), b, c}, 20, 377, 350)
	expectSpan(t, "the second one is lost", []api.Sent{a, lost(b), c}, 20, 377, 307)
	expectSpan(t, "the last one is lost", []api.Sent{a, b, lost(c)}, 20, 377, 57)
	expectSpan(t, "one of each", []api.Sent{came(a), lost(b), c}, 20, 377, 300)
	expectSpan(t, "all came", []api.Sent{came(a), came(b), came(c)}, 20, 377, 0)
	expectSpan(t, "all are lost", []api.Sent{lost(a), lost(b), lost(c)}, 20, 377, 0)
	expectSpan(t, "500 parts", tens(500), 100, 5100, 5000)
	expectSpan(t, "501 parts", tens(501), 0, 0, 0)
}

// P12.2: parts that begin where the list ends, and such that do not.
func TestSend(t *testing.T) {
	for why, l := range validLists() {
		s := sent.Span(l)
		if len(l) == 0 || s.Upto > last || len(l) == 500 {
			continue
		}
		expectSend(t, why, l, part(s.Upto, 10))
		expectSend(t, why, l, came(part(s.Upto, 1)))
		expectSend(t, why, l, lost(part(s.Upto, 1460)))
		for _, seq := range []int{s.Upto - 1, s.Upto + 1, s.From, s.From - 1, 0, last} {
			if seq != s.Upto {
				expectSendError(t, why, l, part(seq, 10), api.ErrArg)
			}
		}
	}
	for _, seq := range []int{0, 1, 20, 1<<32 + 5, last} {
		expectSend(t, "the first part may begin anywhere", nil, part(seq, 10))
	}
	expectSend(t, "up to 2^60", row(last-10, 10), part(last, 10))
	expectSendError(t, "beyond 2^60", row(last-10, 11), part(last+1, 10), api.ErrArg)
	expectSendError(t, "behind a part at 2^60", row(last, 1), part(last+1, 1), api.ErrArg)
	for why, x := range invalidParts() {
		if x.Seq == 20 {
			x.Seq = 130
		}
		expectSendError(t, why, tens(3), x, api.ErrArg)
		if x.Seq == 130 {
			x.Seq = 5090
		}
		expectSendError(t, why, tens(499), x, api.ErrArg)
	}
}

// P12.2: 500 parts are full, and ErrArg goes before that.
func TestSendFull(t *testing.T) {
	expectSend(t, "the 500th part", tens(499), part(5090, 10))
	full := tens(500)
	expectSendError(t, "the 501st part", full, part(5100, 10), api.ErrFull)
	expectSendError(t, "the 501st part came", full, came(part(5100, 10)), api.ErrFull)
	expectSendError(t, "all came", slices.Collect(func(yield func(api.Sent) bool) {
		for _, x := range full {
			if !yield(came(x)) {
				return
			}
		}
	}), part(5100, 10), api.ErrFull)
	for _, seq := range []int{-1, 0, 100, 5090, 5099, 5101, last, last + 1} {
		expectSendError(t, "the 501st part does not fit", full, part(seq, 10), api.ErrArg)
	}
	for why, x := range invalidParts() {
		if x.Seq == 20 {
			x.Seq = 5100
		}
		expectSendError(t, "the 501st part is not valid: "+why, full, x, api.ErrArg)
	}
	for why, l := range invalidLists() {
		final := l[len(l)-1]
		expectSendError(t, why, l, part(final.Seq+final.Len, 10), api.ErrArg)
	}
	for _, n := range []int{501, 502, 1000} {
		expectSendError(t, "behind too many", tens(n), part(100+10*n, 10), api.ErrArg)
	}
}

// P12.2: At and Tries of the part change, Lost is cleared, and every other field and part stays.
func TestAgain(t *testing.T) {
	l := []api.Sent{part(100, 10), lost(part(110, 20)), came(part(130, 5)), lost(part(135, 1)), part(136, 1460)}
	l[3].Tries = 999
	l[4].Tries = 7
	for i, x := range l {
		if x.Came {
			continue
		}
		for _, at := range []int{0, 1, 50, 170, 100000, last - 1, last} {
			want := x
			want.At, want.Lost = at, false
			want.Tries++
			expectAgain(t, "ordinary", l, x.Seq, at, i, want)
		}
	}
	x := part(20, 10)
	x.Tries = 999
	for _, y := range []api.Sent{x, lost(x)} {
		want := x
		want.At, want.Tries = 500, 1000
		expectAgain(t, "Tries of 999", []api.Sent{y}, 20, 500, 0, want)
	}
	want := part(5090, 10)
	want.At, want.Tries = 1, 2
	expectAgain(t, "the last one of 500", tens(500), 5090, 1, 499, want)
	want = part(0, 10)
	want.At, want.Tries = 1, 2
	expectAgain(t, "from 0 on", row(0, 10, 10), 0, 1, 0, want)
	want = part(last, 10)
	want.At, want.Tries = last, 2
	expectAgain(t, "from 2^60 on", row(last-1, 1, 10), last, last, 1, want)
}

// P12.2: parts that there are not, that came, or that were sent too often, and that ErrArg goes before these.
func TestAgainErrors(t *testing.T) {
	l := []api.Sent{part(100, 10), lost(part(110, 20)), came(part(130, 5)), lost(part(135, 1)), part(136, 1460)}
	l[3].Tries = 1000
	l[4].Tries = 1000
	for _, seq := range []int{math.MinInt, -1, 0, 99, 101, 109, 111, 129, 134, 137, 1595, 1596, 1597, last, math.MaxInt} {
		expectAgainError(t, "no such part", l, seq, 50, api.ErrNone)
		expectAgainError(t, "no part", nil, seq, 50, api.ErrNone)
		expectAgainError(t, "an empty list", []api.Sent{}, seq, 50, api.ErrNone)
	}
	for _, seq := range []int{130, 135, 136} {
		for _, at := range []int{0, 50, last} {
			expectAgainError(t, "Came, or Tries of 1000", l, seq, at, api.ErrNone)
		}
	}
	for _, at := range []int{math.MinInt, -50, -1, last + 1, last + 2, math.MaxInt} {
		for _, seq := range []int{-1, 0, 100, 101, 110, 130, 135, 136, 1596} {
			expectAgainError(t, "at is not in range", l, seq, at, api.ErrArg)
			expectAgainError(t, "at is not in range, no part", nil, seq, at, api.ErrArg)
		}
	}
}

// P12.1, P12.3: the document's example.
func TestExample(t *testing.T) {
	l := row(0, 10, 10)
	expectHeard(t, "the example", l, 10, nil, l[1:], l[:1])
	left, _, _ := sent.Heard(l, 10, nil)
	expectSpan(t, "the example", left, 10, 20, 10)
}

// P12.3: what is before got is removed.
func TestHeardGot(t *testing.T) {
	l := row(100, 10, 20, 30)
	for got := 100; got <= 160; got++ {
		n := 0
		for n < 3 && l[n].Seq+l[n].Len <= got {
			n++
		}
		expectHeard(t, "each got", l, got, nil, l[n:], l[:n])
		expectHeard(t, "each got", l, got, []api.Span{}, l[n:], l[:n])
	}
	lostOnes := []api.Sent{lost(l[0]), l[1], lost(l[2])}
	expectHeard(t, "a lost one is told as it was", lostOnes, 110, nil, lostOnes[1:], lostOnes[:1])
	expectHeard(t, "lost ones are told as they were", lostOnes, 160, nil, nil, lostOnes)
	cameOnes := []api.Sent{l[0], came(l[1]), l[2]}
	expectHeard(t, "one that came before is not told", cameOnes, 130, nil, cameOnes[2:], cameOnes[:1])
	expectHeard(t, "one that came before stays", cameOnes, 110, nil, cameOnes[1:], cameOnes[:1])
	expectHeard(t, "one that came before stays though sacks do not tell of it", cameOnes, 100, nil, cameOnes, nil)
	expectHeard(t, "in the middle of one that came before", cameOnes, 129, nil, cameOnes[1:], cameOnes[:1])
	expectHeard(t, "all", cameOnes, 160, nil, nil, []api.Sent{l[0], l[2]})
	first := []api.Sent{came(l[0]), l[1]}
	expectHeard(t, "nothing new", first, 110, nil, first[1:], nil)
	expectHeard(t, "500 parts", tens(500), 5090, nil, tens(500)[499:], tens(499))
	expectHeard(t, "all of 500 parts", tens(500), 5100, nil, nil, tens(500))
	expectHeard(t, "the furthest part", row(last, 1460), last+1460, nil, nil, row(last, 1460))
}

// P12.3: parts that lie in sacks wholly, in part, in two spans, or exactly.
func TestHeardSacks(t *testing.T) {
	l := row(100, 10, 20, 30, 40) // from 100, 110, 130 and 160 on, up to 200
	for _, c := range []struct {
		why   string
		come  []api.Span
		lie   []int // the parts that become Came
		after int   // got
	}{
		{"the first one exactly", sacks(100, 110), []int{0}, 100},
		{"the second one exactly", sacks(110, 130), []int{1}, 100},
		{"the last one exactly", sacks(160, 200), []int{3}, 100},
		{"one that lies within", sacks(105, 131), []int{1}, 100},
		{"two of them", sacks(110, 160), []int{1, 2}, 100},
		{"all of them", sacks(100, 200), []int{0, 1, 2, 3}, 100},
		{"one byte too few at its end", sacks(110, 129), nil, 100},
		{"one byte too few at its beginning", sacks(111, 130), nil, 100},
		{"one byte of the last one is missing", sacks(160, 199), nil, 100},
		{"one byte more at its end", sacks(110, 131), []int{1}, 100},
		{"one byte more at its beginning", sacks(109, 130), []int{1}, 100},
		{"the first byte of each", sacks(100, 101, 110, 111, 130, 131, 160, 161), nil, 100},
		{"two spans that leave a gap of one", sacks(110, 119, 120, 130), nil, 100},
		{"two spans that leave a gap of one, and another part", sacks(110, 119, 120, 160), []int{2}, 100},
		{"the first one and the third one", sacks(100, 110, 130, 160), []int{0, 2}, 100},
		{"spans that cut parts", sacks(105, 135, 150, 200), []int{1, 3}, 100},
		{"got within the first one", sacks(110, 130), []int{1}, 105},
		{"a part of which got has the beginning, and sacks the rest", sacks(105, 130), []int{1}, 105},
		{"a part of which sacks lack the beginning only", sacks(101, 110), nil, 101},
	} {
		left, told := slices.Clone(l), []api.Sent(nil)
		for _, i := range c.lie {
			told = append(told, l[i])
			left[i] = came(l[i])
		}
		expectHeard(t, c.why, l, c.after, c.come, left, told)
	}
}

// P12.3: lost parts that come are not lost any more, and parts that came before are not told again.
func TestHeardStates(t *testing.T) {
	a, b, c, d := part(100, 10), part(110, 10), part(120, 10), part(130, 10)
	l := []api.Sent{lost(a), came(b), lost(c), d}
	expectHeard(t, "nothing", l, 100, nil, l, nil)
	expectHeard(t, "one that came before", l, 100, sacks(110, 120), l, nil)
	expectHeard(t, "a lost one", l, 100, sacks(120, 130), []api.Sent{lost(a), came(b), came(c), d}, []api.Sent{lost(c)})
	expectHeard(t, "two lost ones", l, 100, sacks(100, 130), []api.Sent{came(a), came(b), came(c), d}, []api.Sent{lost(a), lost(c)})
	expectHeard(t, "one that is not lost", l, 100, sacks(130, 140), []api.Sent{lost(a), came(b), lost(c), came(d)}, []api.Sent{d})
	expectHeard(t, "all", l, 100, sacks(100, 140), []api.Sent{came(a), came(b), came(c), came(d)}, []api.Sent{lost(a), lost(c), d})
	expectHeard(t, "a lost one that is not there whole", l, 100, sacks(120, 129), l, nil)
	expectHeard(t, "before got and in sacks", l, 110, sacks(120, 140), []api.Sent{came(b), came(c), came(d)}, []api.Sent{lost(a), lost(c), d})
	expectHeard(t, "sacks that lie before got", l, 130, sacks(100, 110, 120, 130), []api.Sent{d}, []api.Sent{lost(a), lost(c)})
	expectHeard(t, "sacks around got", l, 120, sacks(110, 130), []api.Sent{came(c), d}, []api.Sent{lost(a), lost(c)})
	expectHeard(t, "got and sacks of all", l, 140, sacks(100, 140), nil, []api.Sent{lost(a), lost(c), d})
	x := api.Sent{Seq: 7, Len: 3, Dsn: 11, At: 13, Tries: 17, Lost: true, Total: 19, Last: 23}
	y := x
	y.Came, y.Lost = true, false
	expectHeard(t, "all other fields stay", []api.Sent{x}, 7, sacks(7, 10), []api.Sent{y}, []api.Sent{x})
	expectHeard(t, "all other fields are told", []api.Sent{x}, 10, nil, nil, []api.Sent{x})
}

// P12.3: lists of spans that are not valid, and ErrArg goes before ErrNone.
func TestHeardArg(t *testing.T) {
	many := make([]api.Span, 1001)
	for i := range many {
		many[i] = api.Span{From: 100 + 2*i, Upto: 101 + 2*i}
	}
	long := row(100, slices.Repeat([]int{1460}, 3)...)
	expectHeard(t, "1000 spans", long, 100, many[:1000], long, nil)
	for why, come := range map[string][]api.Span{
		"an empty span":          sacks(110, 110),
		"a span that falls":      sacks(120, 110),
		"a span from -1 on":      sacks(-1, 110),
		"spans that touch":       sacks(110, 120, 120, 130),
		"spans that overlap":     sacks(110, 121, 120, 130),
		"spans that fall":        sacks(120, 130, 100, 110),
		"a span beyond 2^62":     sacks(110, 1<<62+1),
		"the second one is none": sacks(100, 110, 120, 120),
		"1001 spans":             many,
	} {
		for _, got := range []int{math.MinInt, -1, 0, 99, 100, 105, 110, 4480, 4481, math.MaxInt} {
			expectHeardError(t, why, long, got, come, api.ErrArg)
			expectHeardError(t, why, nil, got, come, api.ErrArg)
		}
	}
}

// P12.3: acknowledgements of what was not sent.
func TestHeardNone(t *testing.T) {
	for _, got := range []int{math.MinInt, -1, 0, 1, 100, last, math.MaxInt} {
		expectHeardError(t, "no part", nil, got, nil, api.ErrNone)
		expectHeardError(t, "an empty list", []api.Sent{}, got, []api.Span{}, api.ErrNone)
		expectHeardError(t, "no part, and spans", nil, got, sacks(0, 1), api.ErrNone)
	}
	for why, l := range validLists() {
		s := sent.Span(l)
		if len(l) == 0 {
			continue
		}
		for _, got := range []int{math.MinInt, -1, s.From - 1, s.Upto + 1, last + 2000, math.MaxInt} {
			expectHeardError(t, why+", got is outside", l, got, nil, api.ErrNone)
			expectHeardError(t, why+", got is outside, and spans", l, got, sacks(s.From, s.Upto), api.ErrNone)
		}
		for _, got := range []int{s.From, s.Upto} {
			if _, _, e := sent.Heard(l, got, nil); e != api.OK {
				t.Errorf("%s: got %d of %v: %d", why, got, s, e)
			}
			if _, _, e := sent.Heard(l, got, sacks(s.From, s.Upto)); e != api.OK {
				t.Errorf("%s: got %d and all of %v: %d", why, got, s, e)
			}
			expectHeardError(t, why+", a span ends one behind", l, got, sacks(s.From, s.Upto+1), api.ErrNone)
			expectHeardError(t, why+", a span of one behind", l, got, sacks(s.Upto, s.Upto+1), api.ErrNone)
			expectHeardError(t, why+", a span far behind", l, got, sacks(1<<62-1, 1<<62), api.ErrNone)
			if s.From == 0 {
				continue
			}
			expectHeardError(t, why+", a span begins one before", l, got, sacks(s.From-1, s.Upto), api.ErrNone)
			expectHeardError(t, why+", a span of one before", l, got, sacks(s.From-1, s.From), api.ErrNone)
		}
	}
	l := tens(4)
	expectHeardError(t, "the first span is before", l, 100, sacks(0, 5, 110, 120), api.ErrNone)
	expectHeardError(t, "the last span is behind", l, 100, sacks(110, 120, 130, 141), api.ErrNone)
	expectHeardError(t, "the last span is far behind", l, 100, sacks(110, 120, 150, 160), api.ErrNone)
	expectHeardError(t, "both", l, 100, sacks(99, 105, 110, 120, 130, 141), api.ErrNone)
}

// heard returns what the document says Heard is, byte by byte, of a valid list and arguments that it accepts.
func heard(l []api.Sent, got int, come []api.Span) (left, told []api.Sent) {
	in := map[int]bool{}
	for _, s := range come {
		for n := s.From; n < s.Upto; n++ {
			in[n] = true
		}
	}
	for _, x := range l {
		lies := true
		for n := x.Seq; n < x.Seq+x.Len; n++ {
			lies = lies && in[n]
		}
		gone := x.Seq+x.Len <= got
		if (gone || lies) && !x.Came {
			told = append(told, x)
		}
		if gone {
			continue
		}
		if lies {
			x = came(x)
		}
		left = append(left, x)
	}
	return left, told
}

// P12.3: all acknowledgements of three short parts in all states, by the definition.
func TestHeardExhaustive(t *testing.T) {
	parts := row(1, 1, 2, 2) // from 1, 2 and 4 on, up to 6
	for states := range 27 {
		l := slices.Clone(parts)
		for i, s := 0, states; i < 3; i, s = i+1, s/3 {
			l[i].Came, l[i].Lost = s%3 == 1, s%3 == 2
		}
		for bits := range 1 << 8 { // the numbers from 0 up to 7 that sacks contain
			var come []api.Span
			for n := range 8 {
				switch {
				case bits>>n&1 == 0:
				case n > 0 && bits>>(n-1)&1 == 1:
					come[len(come)-1].Upto = n + 1
				default:
					come = append(come, api.Span{From: n, Upto: n + 1})
				}
			}
			for got := -1; got <= 8; got++ {
				if got < 1 || got > 6 || bits&0b11000001 > 0 {
					expectHeardError(t, "all", l, got, come, api.ErrNone)
					continue
				}
				left, told := heard(l, got, come)
				expectHeard(t, "all", l, got, come, left, told)
			}
		}
	}
}

// series is a list, with all that was sent and all that was told.
type series struct {
	l         []api.Sent
	next, got int
	has       map[int]bool // the parts that have arrived, by where they begin
	told      map[int]int  // how often each part was told
}

// send appends parts, some of which are taken for lost.
func (s *series) send(t *testing.T, roll func(n int) int) {
	t.Helper()
	for range roll(20) {
		x := part(s.next, 1+roll(30))
		l, e := sent.Send(s.l, x)
		if e == api.ErrFull && len(s.l) == 500 {
			return
		}
		if e != api.OK {
			t.Fatalf("Send: %d", e)
		}
		s.l, s.next = l, s.next+x.Len
	}
	for i := range s.l {
		s.l[i].Lost = !s.l[i].Came && roll(5) == 0
	}
}

// acknowledge has some of the parts arrive, and tells of all or of some of them.
func (s *series) acknowledge(t *testing.T, roll func(n int) int) {
	t.Helper()
	if len(s.l) == 0 {
		return
	}
	var come []api.Span
	for _, x := range s.l {
		s.has[x.Seq] = s.has[x.Seq] || roll(3) == 0
		end := x.Seq + x.Len
		switch {
		case !s.has[x.Seq]:
		case s.got == x.Seq:
			s.got = end
		case len(come) > 0 && come[len(come)-1].Upto == x.Seq:
			come[len(come)-1].Upto = end
		default:
			come = append(come, api.Span{From: x.Seq, Upto: end})
		}
	}
	if len(come) > 3 {
		come = come[:3]
	}
	left, told, e := sent.Heard(s.l, s.got, come)
	if e != api.OK || !slices.IsSortedFunc(told, func(a, b api.Sent) int { return a.Seq - b.Seq }) {
		t.Fatalf("Heard: %v %d", told, e)
	}
	s.l = left
	for _, x := range told {
		s.told[x.Seq]++
		if s.told[x.Seq] > 1 || !s.has[x.Seq] {
			t.Fatalf("%d was told %d times", x.Seq, s.told[x.Seq])
		}
	}
	s.settle(t)
}

// settle checks what holds after each acknowledgement.
func (s *series) settle(t *testing.T) {
	t.Helper()
	whole := sent.Span(s.l)
	if n := sent.Flight(s.l); n < 0 || n > whole.Upto-whole.From {
		t.Fatalf("%d bytes of %v are in flight", n, whole)
	}
	for _, x := range s.l {
		if x.Seq+x.Len <= s.got || x.Came != (s.told[x.Seq] == 1) {
			t.Fatalf("%v is left, told %d times, got %d", x, s.told[x.Seq], s.got)
		}
	}
}

// P12.4: each part is told exactly once over longer series, and Flight is never greater than the length of the span.
func TestSeries(t *testing.T) {
	for seed := range 40 {
		roll := dice(seed)
		s := series{next: 1000, got: 1000, has: map[int]bool{}, told: map[int]int{}}
		for range 100 {
			s.send(t, roll)
			s.acknowledge(t, roll)
		}
		whole := sent.Span(s.l)
		if len(s.l) > 0 {
			_, told, e := sent.Heard(s.l, whole.Upto, nil)
			if e != api.OK {
				t.Fatalf("the end: %d", e)
			}
			for _, x := range told {
				s.told[x.Seq]++
			}
		}
		for at := 1000; at < s.next; {
			if s.told[at] != 1 {
				t.Fatalf("%d was told %d times", at, s.told[at])
			}
			delete(s.told, at)
			for at++; at < s.next && s.told[at] == 0; at++ {
			}
		}
		if len(s.told) > 0 {
			t.Fatalf("told of what was not sent: %v", s.told)
		}
	}
}

// P12.4: Flight is never greater than the length of the span, of all lists.
func TestFlightLimit(t *testing.T) {
	lists := validLists()
	for why, l := range invalidLists() {
		lists[why+" (not valid)"] = l
	}
	for why, l := range lists {
		s := sent.Span(l)
		if n := sent.Flight(l); n < 0 || n > s.Upto-s.From {
			t.Errorf("%s: %d bytes of %v are in flight", why, n, s)
		}
	}
}

// calls returns the results of all calls that return lists.
func calls(l []api.Sent, come []api.Span) [][]api.Sent {
	whole := sent.Span(l)
	a, _ := sent.Send(l, part(whole.Upto, 10))
	b, _ := sent.Again(l, whole.From, 500)
	c, d, _ := sent.Heard(l, whole.From, nil)
	e, f, _ := sent.Heard(l, whole.From, come)
	g, h, _ := sent.Heard(l, whole.From+20, come)
	i, j, _ := sent.Heard(l, whole.Upto, nil)
	return [][]api.Sent{a, b, c, d, e, f, g, h, i, j}
}

// mixed returns n parts of 10 bytes from 100 on in all states.
func mixed(n int) []api.Sent {
	l := tens(n)
	for i := range l {
		l[i].Came, l[i].Lost = i%5 == 3, i%5 == 2 || i%5 == 0
	}
	return l
}

// R3: arguments are not modified, nor what lies behind them.
func TestArgumentsKept(t *testing.T) {
	for _, n := range []int{0, 1, 2, 5, 9, 500} {
		whole, come := mixed(n+20), sacks(100, 110, 120, 130)
		l := whole[:n]
		sent.May(l)
		sent.Flight(l)
		sent.Span(l)
		calls(l, come[:1])
		calls(l, come)
		sent.Send(l, part(7, 10))
		sent.Again(l, 101, 5)
		sent.Heard(l, 0, come)
		if !slices.Equal(whole, mixed(n+20)) || !slices.Equal(come, sacks(100, 110, 120, 130)) {
			t.Errorf("%d parts: an argument was modified", n)
		}
	}
	for why, l := range invalidLists() {
		before := slices.Clone(l)
		sent.May(l)
		sent.Flight(l)
		sent.Span(l)
		calls(l, sacks(100, 110))
		if !slices.Equal(l, before) {
			t.Errorf("%s: the argument was modified", why)
		}
	}
}

// R3: results share no memory with arguments, nor is there any room behind them that does.
func TestResultsOwned(t *testing.T) {
	for _, n := range []int{1, 2, 3, 5, 9, 500} {
		whole := mixed(n + 20)
		for i, got := range calls(whole[:n], sacks(100, 110)) {
			before := slices.Clone(got)
			for k := range whole {
				whole[k].Total += 1000
			}
			if !slices.Equal(got, before) {
				t.Errorf("%d parts, call %d: the result was modified with the argument", n, i)
			}
			before = slices.Clone(whole)
			clear(got[:cap(got)])
			if !slices.Equal(whole, before) {
				t.Errorf("%d parts, call %d: the argument was modified with the result", n, i)
			}
		}
	}
}

// R3: no two results share memory, of one call or of two.
func TestResultsApart(t *testing.T) {
	for _, n := range []int{1, 2, 3, 5, 9, 499} {
		l := append(make([]api.Sent, 0, 600), mixed(n)...)
		all := append(calls(l, sacks(100, 110)), calls(l, sacks(100, 110))...)
		want := append(calls(l, sacks(100, 110)), calls(l, sacks(100, 110))...)
		for i, got := range all {
			clear(got[:cap(got)])
			for k := i + 1; k < len(all); k++ {
				if !slices.Equal(all[k], want[k]) {
					t.Errorf("%d parts: result %d was modified with result %d", n, k, i)
				}
			}
		}
	}
}

// R5: nothing is kept from one call to the next one.
func TestCallsAgain(t *testing.T) {
	for range 20 {
		l := []api.Sent{part(100, 10), lost(part(110, 10)), part(120, 10)}
		expectSpan(t, "again", l, 100, 130, 20)
		expectSend(t, "again", l, part(130, 10))
		want := part(110, 10)
		want.At, want.Tries = 9, 2
		expectAgain(t, "again", l, 110, 9, 1, want)
		expectHeard(t, "again", l, 110, sacks(110, 120), []api.Sent{came(l[1]), l[2]}, l[:2])
	}
}
