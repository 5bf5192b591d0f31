package sender_test

import (
	"reflect"
	"testing"

	"fourinhand/api"
	"fourinhand/ecf"
	"fourinhand/flow"
	"fourinhand/group"
	"fourinhand/keep"
	"fourinhand/sender"
	"fourinhand/sent"
	"fourinhand/seqno"
	"fourinhand/spans"
	"fourinhand/vegas"
	"fourinhand/xmp"
)

// answer is all that a call returns.
type answer struct {
	sender api.Sender
	seg    api.Seg
	n      int
	e      api.Errno
}

func writes(s api.Sender, c api.Conf, b []byte) answer {
	u, n, e := sender.Write(s, c, b)
	return answer{sender: u, n: n, e: e}
}

func shuts(s api.Sender, c api.Conf) answer {
	u, e := sender.Shut(s, c)
	return answer{sender: u, e: e}
}

func joins(s api.Sender, c api.Conf, i int) answer {
	u, e := sender.Join(s, c, i)
	return answer{sender: u, e: e}
}

func leaves(s api.Sender, c api.Conf, i int) answer {
	u, e := sender.Leave(s, c, i)
	return answer{sender: u, e: e}
}

func pulls(s api.Sender, c api.Conf, now int) answer {
	u, x, e := sender.Pull(s, c, now)
	return answer{sender: u, seg: x, e: e}
}

func hears(s api.Sender, c api.Conf, x api.Seg, now int) answer {
	u, e := sender.Hear(s, c, x, now)
	return answer{sender: u, e: e}
}

func ticks(s api.Sender, c api.Conf, now int) answer {
	u, e := sender.Tick(s, c, now)
	return answer{sender: u, e: e}
}

// renewed returns x with each list in it replaced by what change makes of it.
func renewed[T any](x T, change func(l reflect.Value) reflect.Value) T {
	var renew func(v reflect.Value)
	renew = func(v reflect.Value) {
		switch v.Kind() {
		case reflect.Struct:
			for i := range v.NumField() {
				renew(v.Field(i))
			}
		case reflect.Array:
			for i := range v.Len() {
				renew(v.Index(i))
			}
		case reflect.Slice:
			v.Set(change(v))
		}
	}
	renew(reflect.ValueOf(&x).Elem())
	return x
}

// garble changes everything in v.
func garble(v reflect.Value) {
	switch v.Kind() {
	case reflect.Struct:
		for i := range v.NumField() {
			garble(v.Field(i))
		}
	case reflect.Bool:
		v.SetBool(!v.Bool())
	case reflect.Int:
		v.SetInt(-v.Int() - 5)
	default:
		v.SetUint(v.Uint()%200 + 55)
	}
}

// owned returns x with lists of its own, which have more capacity than length, and something behind their ends.
func owned[T any](x T) T {
	return renewed(x, func(l reflect.Value) reflect.Value {
		r := reflect.MakeSlice(l.Type(), l.Len()+3, l.Len()+3)
		reflect.Copy(r, l)
		for i := l.Len(); i < r.Len(); i++ {
			garble(r.Index(i))
		}
		return r.Slice(0, l.Len())
	})
}

// whole returns x with its lists up to their capacities.
func whole[T any](x T) T {
	return renewed(x, func(l reflect.Value) reflect.Value { return l.Slice(0, l.Cap()) })
}

// plain returns a copy of x in which empty lists are nil.
func plain[T any](x T) T {
	return renewed(x, func(l reflect.Value) reflect.Value {
		return reflect.AppendSlice(reflect.Zero(l.Type()), l)
	})
}

// spoil changes all that the lists of x hold.
func spoil[T any](x T) {
	renewed(whole(x), func(l reflect.Value) reflect.Value {
		for i := range l.Len() {
			garble(l.Index(i))
		}
		return l
	})
}

// plainly returns a copy of a in which empty lists are nil.
func plainly(a answer) answer {
	a.sender, a.seg = plain(a.sender), plain(a.seg)
	return a
}

// expectEqual checks one thing.
func expectEqual[T any](t *testing.T, why string, got, want T) {
	t.Helper()
	if !reflect.DeepEqual(plain(got), plain(want)) {
		t.Errorf("%s: %+v instead of %+v", why, got, want)
	}
}

// expectSame checks that two answers are the same.
func expectSame(t *testing.T, why string, got, want answer) {
	t.Helper()
	if !reflect.DeepEqual(plainly(got), plainly(want)) {
		t.Errorf("%s:\n got %+v\nwant %+v", why, got, want)
	}
}

// expectOwn checks of a call with s and x that it changes neither, that its answer shares no memory with them or within itself, and that called again it answers the same.
func expectOwn[X any](t *testing.T, why string, s api.Sender, x X, call func(s api.Sender, x X) answer) answer {
	t.Helper()
	s1, x1 := owned(s), owned(x)
	before, beforeX := plain(whole(s1)), plain(whole(x1))
	a := call(s1, x1)
	if !reflect.DeepEqual(plain(whole(s1)), before) || !reflect.DeepEqual(plain(whole(x1)), beforeX) {
		t.Errorf("%s: what was given is changed", why)
	}
	answered := plainly(a)
	spoil(s1)
	spoil(x1)
	expectSame(t, why+": when what was given is changed", a, answered)

	s1, x1 = owned(s), owned(x)
	again := call(s1, x1)
	expectSame(t, why+": called again", again, answered)
	spoil(again.seg)
	if !reflect.DeepEqual(plain(again.sender), answered.sender) {
		t.Errorf("%s: the sender changes with the segment", why)
	}
	apart(t, why, again.sender)
	spoil(again.sender)
	if !reflect.DeepEqual(plain(whole(s1)), before) || !reflect.DeepEqual(plain(whole(x1)), beforeX) {
		t.Errorf("%s: what was given changes with the answer", why)
	}
	return answered
}

// apart checks that no two lists of s share memory.
func apart(t *testing.T, why string, s api.Sender) {
	t.Helper()
	seen := map[uintptr]bool{}
	renewed(s, func(l reflect.Value) reflect.Value {
		if l.Len() > 0 && seen[l.Pointer()] {
			t.Errorf("%s: two lists share memory", why)
		}
		seen[l.Pointer()] = true
		return l
	})
}

// expectSound checks what holds for every call: a valid sender remains valid, and nothing is released that is not acknowledged, or taken back; beside an error there is nothing else, unless the call says so by rest.
func expectSound(t *testing.T, why string, s api.Sender, c api.Conf, a answer, rest bool) {
	t.Helper()
	if a.e != api.OK && !rest {
		expectSame(t, why+": beside the error", a, answer{e: a.e})
		return
	}
	u := a.sender
	if !isValid(u, c) || !sender.May(u, c) {
		t.Errorf("%s: %+v is not valid", why, u)
	}
	if u.K.Base > s.K.Base && u.K.Base > u.Got {
		t.Errorf("%s: released up to %d, acknowledged up to %d", why, u.K.Base, u.Got)
	}
	if u.K.Base < s.K.Base || u.Got < s.Got || u.Edge < s.Edge || u.Next < s.Next || keep.End(u.K) < keep.End(s.K) || s.Fin && !u.Fin || s.K.Shut && !u.K.Shut {
		t.Errorf("%s: something is taken back: %+v", why, u)
	}
}

// expect checks an answer to a call with s by all that the document says of it, which is want.
func expect(t *testing.T, why string, s api.Sender, c api.Conf, a, want answer, e api.Errno) answer {
	t.Helper()
	expectSame(t, why, a, want)
	if a.e != e {
		t.Errorf("%s: error %d instead of %d", why, a.e, e)
	}
	expectSound(t, why, s, c, a, false)
	return a
}

// none is what is given to calls that take nothing beside a sender that has lists.
type none struct{}

// expectWrite checks what Write returns.
func expectWrite(t *testing.T, why string, s api.Sender, c api.Conf, b []byte, n int, e api.Errno) answer {
	t.Helper()
	a := expectOwn(t, why, s, b, func(s api.Sender, b []byte) answer { return writes(s, c, b) })
	expectEqual(t, why, a.n, n)
	return expect(t, why, s, c, a, writesBy(s, c, b), e)
}

// expectShut checks what Shut returns.
func expectShut(t *testing.T, why string, s api.Sender, c api.Conf, e api.Errno) answer {
	t.Helper()
	a := expectOwn(t, why, s, none{}, func(s api.Sender, _ none) answer { return shuts(s, c) })
	return expect(t, why, s, c, a, shutsBy(s, c), e)
}

// expectJoin checks what Join returns.
func expectJoin(t *testing.T, why string, s api.Sender, c api.Conf, i int, e api.Errno) answer {
	t.Helper()
	a := expectOwn(t, why, s, none{}, func(s api.Sender, _ none) answer { return joins(s, c, i) })
	return expect(t, why, s, c, a, joinsBy(s, c, i), e)
}

// expectLeave checks what Leave returns.
func expectLeave(t *testing.T, why string, s api.Sender, c api.Conf, i int, e api.Errno) answer {
	t.Helper()
	a := expectOwn(t, why, s, none{}, func(s api.Sender, _ none) answer { return leaves(s, c, i) })
	return expect(t, why, s, c, a, leavesBy(s, c, i), e)
}

// expectPull checks what Pull returns, also that windows and the Edge are kept to.
func expectPull(t *testing.T, why string, s api.Sender, c api.Conf, now int, e api.Errno) answer {
	t.Helper()
	a := expectOwn(t, why, s, none{}, func(s api.Sender, _ none) answer { return pulls(s, c, now) })
	expectSame(t, why, a, pullsBy(s, c, now))
	if a.e != e {
		t.Errorf("%s: error %d instead of %d", why, a.e, e)
	}
	expectSound(t, why, s, c, a, a.e == api.ErrNone)
	u := a.sender
	if u.Next > s.Next && u.Next > s.Edge {
		t.Errorf("%s: sent up to %d, beyond %d", why, u.Next, s.Edge)
	}
	if f := u.F[a.seg.Sub]; a.e == api.OK && sent.Flight(f.L) > f.W.Cwnd {
		t.Errorf("%s: more in flight than the window", why)
	}
	if a.e == api.ErrNone {
		s.Waits = u.Waits
		expectSame(t, why+": only Waits may change", a, answer{sender: s, e: a.e})
	}
	return a
}

// expectHear checks what Hear returns.
func expectHear(t *testing.T, why string, s api.Sender, c api.Conf, x api.Seg, now int, e api.Errno) answer {
	t.Helper()
	a := expectOwn(t, why, s, x, func(s api.Sender, x api.Seg) answer { return hears(s, c, x, now) })
	return expect(t, why, s, c, a, hearsBy(s, c, x, now), e)
}

// expectTick checks what Tick returns.
func expectTick(t *testing.T, why string, s api.Sender, c api.Conf, now int, e api.Errno) answer {
	t.Helper()
	a := expectOwn(t, why, s, none{}, func(s api.Sender, _ none) answer { return ticks(s, c, now) })
	return expect(t, why, s, c, a, ticksBy(s, c, now), e)
}

// isWithin reports whether n is in the range from low to high.
func isWithin(n, low, high int) bool { return n >= low && n <= high }

// sentUpto returns the end of everything sent.
func sentUpto(s api.Sender) int {
	if s.Fin {
		return s.Next + 1
	}
	return s.Next
}

// isValid reports whether the document calls s valid for c.
func isValid(s api.Sender, c api.Conf) bool {
	if !flow.Fine(c) || !keep.May(s.K) || s.K.Cap != c.Keep || !spans.May(s.Back) {
		return false
	}
	base, end := s.K.Base, s.K.Base+len(s.K.B)
	if s.Fin && (s.Next < end || !s.K.Shut) || !isWithin(s.Next, base, end) || !isWithin(s.Edge, 0, last) {
		return false
	}
	upto := sentUpto(s)
	for _, x := range s.Back {
		if x.From < base || x.Upto > upto {
			return false
		}
	}
	for _, f := range s.F {
		if !flow.May(f, c) {
			return false
		}
		for _, x := range f.L {
			if x.Dsn+x.Len > upto || x.Dsn < base && !x.Came {
				return false
			}
		}
	}
	return isWithin(s.Got, base, upto)
}

// sure returns a result that comes without an error.
func sure[T any](x T, e api.Errno) T {
	if e != api.OK {
		panic("an error that the document rules out")
	}
	return x
}

// releasedBy returns s without the bytes that the document says are released.
func releasedBy(s api.Sender) api.Sender {
	limits := []int{s.K.Base + len(s.K.B), s.Got}
	for _, f := range s.F {
		for _, x := range f.L {
			if !x.Came {
				limits = append(limits, x.Dsn)
			}
		}
	}
	for _, x := range s.Back {
		limits = append(limits, x.From)
	}
	least := limits[0]
	for _, n := range limits {
		least = min(least, n)
	}
	s.K.B = s.K.B[least-s.K.Base:]
	s.K.Base = least
	return s
}

// writesBy returns what the document says Write returns.
func writesBy(s api.Sender, c api.Conf, b []byte) answer {
	if !isValid(s, c) {
		return answer{e: api.ErrArg}
	}
	k, n, e := keep.Write(s.K, b)
	if e != api.OK {
		return answer{e: e}
	}
	s = plain(s)
	s.K = k
	return answer{sender: s, n: n}
}

// shutsBy returns what the document says Shut returns.
func shutsBy(s api.Sender, c api.Conf) answer {
	if !isValid(s, c) {
		return answer{e: api.ErrArg}
	}
	s = plain(s)
	s.K.Shut = true
	return answer{sender: s}
}

// joinsBy returns what the document says Join returns.
func joinsBy(s api.Sender, c api.Conf, i int) answer {
	switch {
	case !isValid(s, c):
		return answer{e: api.ErrArg}
	case i < 0 || i > 3:
		return answer{e: api.ErrNone}
	case s.F[i].Up:
		return answer{e: api.ErrFull}
	case s.F[i].Next > 0:
		return answer{e: api.ErrDone}
	}
	s = plain(s)
	s.F[i].Up = true
	return answer{sender: s}
}

// leavesBy returns what the document says Leave returns.
func leavesBy(s api.Sender, c api.Conf, i int) answer {
	if !isValid(s, c) {
		return answer{e: api.ErrArg}
	}
	if i < 0 || i > 3 || !s.F[i].Up {
		return answer{e: api.ErrNone}
	}
	s = plain(s)
	for _, x := range s.F[i].L {
		from, upto := x.Dsn, x.Dsn+x.Len
		if from < s.Got {
			from = s.Got
		}
		if !x.Came && from < upto {
			back, e := spans.Add(s.Back, api.Span{From: from, Upto: upto})
			if e != api.OK {
				return answer{e: e}
			}
			s.Back = back
		}
	}
	s.F[i].Up = false
	s.F[i].L = nil
	s.F[i].T = api.Timer{}
	return answer{sender: releasedBy(s)}
}

// segmentBy returns the segment of the part x of the subflow i.
func segmentBy(s api.Sender, i int, x api.Sent) api.Seg {
	low := func(n int) uint32 { return uint32(n % (1 << 32)) }
	g := api.Seg{Kind: api.Data, Sub: i, Seq: low(x.Seq), Dsn: low(x.Dsn), At: low(x.At)}
	g.Fin = x.Dsn == s.K.Base+len(s.K.B)
	for n := x.Dsn; n < x.Dsn+x.Len && n < s.K.Base+len(s.K.B); n++ {
		g.B = append(g.B, s.K.B[n-s.K.Base])
	}
	return g
}

// pullsBy returns what the document says Pull returns.
func pullsBy(s api.Sender, c api.Conf, now int) answer {
	if !isValid(s, c) || !isWithin(now, 0, last) {
		return answer{e: api.ErrArg}
	}
	s = plain(s)
	for i, f := range s.F { // 1.
		if !f.Up {
			continue
		}
		if g, x, e := flow.Again(f, c, now); e == api.OK {
			s.F[i] = g
			return answer{sender: s, seg: segmentBy(s, i, x)}
		}
	}
	var seg api.Seg
	sends := func(from, n, bytes int) bool {
		var l []api.Choice
		for _, f := range s.F {
			l = append(l, api.Choice{Up: f.Up, Cwnd: f.W.Cwnd, Flight: sent.Flight(f.L), Srtt: f.R.Srtt, Var: f.R.Var})
		}
		i, waits := ecf.Pick(l, bytes, c.Mss, s.Waits)
		s.Waits = waits
		if i == -1 {
			return false
		}
		f, x, e := flow.Send(s.F[i], c, from, n, now)
		if e != api.OK {
			return false
		}
		s.F[i], seg = f, segmentBy(s, i, x)
		return true
	}
	end := s.K.Base + len(s.K.B)
	if len(s.Back) > 0 { // 2.
		from, upto := s.Back[0].From, s.Back[0].Upto
		if upto-from > c.Mss {
			upto = from + c.Mss
		}
		if from < end && upto > end {
			upto = end
		}
		if sends(from, upto-from, upto-from) {
			s.Back = sure(spans.Cut(s.Back, api.Span{From: from, Upto: upto}))
			return answer{sender: s, seg: seg}
		}
	}
	if s.Next < end && s.Next < s.Edge { // 3.
		n := c.Mss
		for s.Next+n > end || s.Next+n > s.Edge {
			n--
		}
		if sends(s.Next, n, end-s.Next) {
			s.Next += n
			return answer{sender: s, seg: seg}
		}
	}
	if s.K.Shut && s.Next == end && !s.Fin && sends(s.Next, 1, 1) { // 4.
		s.Fin = true
		return answer{sender: s, seg: seg}
	}
	return answer{sender: s, e: api.ErrNone}
}

// growthBy returns the growth.
func growthBy(s api.Sender, c api.Conf, i int) int {
	var ways []api.Way
	var delays [][]int
	for _, f := range s.F {
		delays = append(delays, f.Delays)
	}
	of := group.Of(delays)
	for k, f := range s.F {
		var w api.Way
		if f.Up && (c.Vegas || of[k] == of[i]) {
			w = api.Way{Cwnd: f.W.Cwnd, Srtt: f.R.Srtt}
		}
		ways = append(ways, w)
	}
	if c.Vegas {
		return vegas.Alpha(ways, i, c.Total)
	}
	return xmp.Share(ways, i, c.Mss)
}

// flowHearsBy returns what becomes of the flow of x, which is Up.
func flowHearsBy(s api.Sender, c api.Conf, x api.Seg, now int) (api.Flow, api.Errno) {
	f := s.F[x.Sub]
	near := func(low uint32) int { return seqno.Unwrap(f.Next, low) }
	var sacks []api.Span
	for _, p := range x.Sacks {
		sacks = append(sacks, api.Span{From: near(p.From), Upto: near(p.Upto)})
	}
	if !spans.May(sacks) {
		return f, api.ErrForm
	}
	if len(f.L) == 0 {
		if near(x.Got) != f.Next {
			return f, api.ErrNone
		}
		return f, api.OK
	}
	told := api.Told{Got: near(x.Got), Sacks: sacks, Ace: x.Ace, Ce: x.Ce, Now: now, Growth: growthBy(s, c, x.Sub)}
	f, _, e := flow.Heard(f, c, told)
	return f, e
}

// hearsBy returns what the document says Hear returns.
func hearsBy(s api.Sender, c api.Conf, x api.Seg, now int) answer {
	if !isValid(s, c) || !isWithin(now, 0, last) {
		return answer{e: api.ErrArg}
	}
	if x.Kind != api.Ack || !isWithin(x.Sub, 0, 3) || !isWithin(x.Win, 0, 65535) || !isWithin(x.Ace, 0, 7) || x.Ce >= 1<<24 {
		return answer{e: api.ErrForm}
	}
	got := seqno.Unwrap(s.Got, x.Dgot)
	if got > sentUpto(s) {
		return answer{e: api.ErrForm}
	}
	s = plain(s)
	if s.F[x.Sub].Up {
		f, e := flowHearsBy(s, c, x, now)
		if e != api.OK {
			return answer{e: e}
		}
		s.F[x.Sub] = f
	}
	if got > s.Got {
		s.Got = got
	}
	var back []api.Span
	for _, x := range s.Back {
		if x.From < s.Got {
			x.From = s.Got
		}
		if x.From < x.Upto {
			back = append(back, x)
		}
	}
	s.Back = back
	if got+x.Win > s.Edge {
		s.Edge = got + x.Win
	}
	if s.Edge > last {
		s.Edge = last
	}
	return answer{sender: releasedBy(s)}
}

// ticksBy returns what the document says Tick returns.
func ticksBy(s api.Sender, c api.Conf, now int) answer {
	if !isValid(s, c) || !isWithin(now, 0, last) {
		return answer{e: api.ErrArg}
	}
	s = plain(s)
	for i := range s.F {
		if !s.F[i].Up {
			continue
		}
		f, _, e := flow.Tick(s.F[i], c, now)
		s.F[i] = sure(f, e)
		ups := 0
		for _, f := range s.F {
			if f.Up {
				ups++
			}
		}
		if f.R.Shift >= 8 && ups >= 2 {
			if a := leavesBy(s, c, i); a.e == api.OK {
				s = a.sender
			}
		}
	}
	return answer{sender: s}
}
