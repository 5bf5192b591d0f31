package receiver_test

import (
	"reflect"
	"testing"

	"fourinhand/api"
	"fourinhand/marks"
	"fourinhand/receiver"
	"fourinhand/seqno"
	"fourinhand/spans"
	"fourinhand/weave"
)

// answer is all that a call returns.
type answer struct {
	receiver api.Receiver
	seg      api.Seg
	b        []byte
	e        api.Errno
}

func takes(r api.Receiver, x api.Seg, marked bool) answer {
	u, y, e := receiver.Take(r, x, marked)
	return answer{receiver: u, seg: y, e: e}
}

func tells(r api.Receiver, sub int, echo uint32) answer {
	y, e := receiver.Told(r, sub, echo)
	return answer{seg: y, e: e}
}

func reads(r api.Receiver, n int) answer {
	u, b, e := receiver.Read(r, n)
	return answer{receiver: u, b: b, e: e}
}

// renewed returns x with each list in it replaced by what change makes of it.
func renewed[T any](x T, change func(l reflect.Value) reflect.Value) T {
	var renew func(v reflect.Value)
	renew = func(v reflect.Value) {
		switch v.Kind() {
		case reflect.Struct:
			for i := range v.NumField() {
				renew(v.Field(i))
			}
		case reflect.Array:
			for i := range v.Len() {
				renew(v.Index(i))
			}
		case reflect.Slice:
			v.Set(change(v))
		}
	}
	renew(reflect.ValueOf(&x).Elem())
	return x
}

// garble changes everything in v.
func garble(v reflect.Value) {
	switch v.Kind() {
	case reflect.Struct:
		for i := range v.NumField() {
			garble(v.Field(i))
		}
	case reflect.Int:
		v.SetInt(-v.Int() - 5)
	default:
		v.SetUint(v.Uint()%200 + 55)
	}
}

// owned returns x with lists of its own, which have more capacity than length, and something behind their ends.
func owned[T any](x T) T {
	return renewed(x, func(l reflect.Value) reflect.Value {
		r := reflect.MakeSlice(l.Type(), l.Len()+3, l.Len()+3)
		reflect.Copy(r, l)
		for i := l.Len(); i < r.Len(); i++ {
			garble(r.Index(i))
		}
		return r.Slice(0, l.Len())
	})
}

// whole returns x with its lists up to their capacities.
func whole[T any](x T) T {
	return renewed(x, func(l reflect.Value) reflect.Value { return l.Slice(0, l.Cap()) })
}

// plain returns a copy of x in which empty lists are nil.
func plain[T any](x T) T {
	return renewed(x, func(l reflect.Value) reflect.Value {
		return reflect.AppendSlice(reflect.Zero(l.Type()), l)
	})
}

// spoil changes all that the lists of x hold.
func spoil[T any](x T) {
	renewed(whole(x), func(l reflect.Value) reflect.Value {
		for i := range l.Len() {
			garble(l.Index(i))
		}
		return l
	})
}

// plainly returns a copy of a in which empty lists are nil.
func plainly(a answer) answer {
	return answer{plain(a.receiver), plain(a.seg), plain(a.b), a.e}
}

// expectEqual checks one thing.
func expectEqual[T any](t *testing.T, why string, got, want T) {
	t.Helper()
	if !reflect.DeepEqual(plain(got), plain(want)) {
		t.Errorf("%s: %+v instead of %+v", why, got, want)
	}
}

// expectSame checks that two answers are the same.
func expectSame(t *testing.T, why string, got, want answer) {
	t.Helper()
	if !reflect.DeepEqual(plainly(got), plainly(want)) {
		t.Errorf("%s:\n got %+v\nwant %+v", why, got, want)
	}
}

// expectOwn checks of a call with r and x that it changes neither, that its answer shares no memory with them or within itself, and that called again it answers the same.
func expectOwn[X any](t *testing.T, why string, r api.Receiver, x X, call func(r api.Receiver, x X) answer) answer {
	t.Helper()
	r1, x1 := owned(r), owned(x)
	before, beforeX := plain(whole(r1)), plain(whole(x1))
	a := call(r1, x1)
	expectEqual(t, why+": what was given is changed", whole(r1), before)
	expectEqual(t, why+": what was given is changed", whole(x1), beforeX)
	answered := plainly(a)
	spoil(r1)
	spoil(x1)
	expectSame(t, why+": when what was given is changed", a, answered)

	r1, x1 = owned(r), owned(x)
	again := call(r1, x1)
	expectSame(t, why+": called again", again, answered)
	apart(t, why, again)
	spoil(again.seg)
	spoil(again.b)
	expectEqual(t, why+": when the rest of the answer is changed", again.receiver, answered.receiver)
	spoil(again.receiver)
	expectEqual(t, why+": what was given changes with the answer", whole(r1), before)
	expectEqual(t, why+": what was given changes with the answer", whole(x1), beforeX)
	return answered
}

// apart checks that no two lists of an answer share memory.
func apart(t *testing.T, why string, a answer) {
	t.Helper()
	seen := map[uintptr]bool{}
	look := func(l reflect.Value) reflect.Value {
		if l.Len() > 0 && seen[l.Pointer()] {
			t.Errorf("%s: two lists share memory", why)
		}
		seen[l.Pointer()] = true
		return l
	}
	renewed(a.receiver, look)
	renewed(a.seg, look)
	renewed(a.b, look)
}

// expectSound checks what holds for every call that returns a receiver: a valid one remains valid, and nothing is taken back; beside an error there is nothing else.
func expectSound(t *testing.T, why string, r api.Receiver, a answer) {
	t.Helper()
	if a.e != api.OK {
		expectSame(t, why+": beside the error", a, answer{e: a.e})
		return
	}
	u := a.receiver
	if !isValid(u) || !receiver.May(u) {
		t.Errorf("%s: %+v is not valid", why, u)
	}
	if u.W.Base < r.W.Base || u.W.Cap != r.W.Cap || cumulativeBy(u.W) < cumulativeBy(r.W) || r.W.End >= 0 && u.W.End != r.W.End || edgeBy(u.W) < edgeBy(r.W) {
		t.Errorf("%s: something is taken back: %+v", why, u)
	}
	for i, s := range u.S {
		for _, p := range r.S[i].Got {
			if !spans.Has(s.Got, p) {
				t.Errorf("%s: subflow %d had received %d to %d", why, i, p.From, p.Upto)
			}
		}
		if s.M.Packets < r.S[i].M.Packets || s.M.Bytes < r.S[i].M.Bytes {
			t.Errorf("%s: subflow %d: fewer marks than before", why, i)
		}
	}
}

// expectTake checks what Take returns, also that it acknowledges nothing beside what had been received and x.
func expectTake(t *testing.T, why string, r api.Receiver, x api.Seg, marked bool, e api.Errno) answer {
	t.Helper()
	a := expectOwn(t, why, r, x, func(r api.Receiver, x api.Seg) answer { return takes(r, x, marked) })
	expectSame(t, why, a, takesBy(r, x, marked))
	if a.e != e {
		t.Errorf("%s: error %d instead of %d", why, a.e, e)
	}
	expectSound(t, why, r, a)
	if a.e != api.OK {
		return a
	}
	n := len(x.B)
	if x.Fin {
		n = 1
	}
	if more := spans.Size(a.receiver.S[x.Sub].Got) - spans.Size(r.S[x.Sub].Got); more > n {
		t.Errorf("%s: %d more positions, of %d", why, more, n)
	}
	if more := spans.Size(a.receiver.W.Got) - spans.Size(r.W.Got); more > len(x.B) {
		t.Errorf("%s: %d more bytes, of %d", why, more, len(x.B))
	}
	for i := range r.S {
		if i != x.Sub && !reflect.DeepEqual(plain(a.receiver.S[i]), plain(r.S[i])) {
			t.Errorf("%s: subflow %d is changed", why, i)
		}
	}
	expectTold(t, why+": told again", a.receiver, x.Sub, x.At, a.seg, api.OK)
	return a
}

// expectTold checks what Told returns.
func expectTold(t *testing.T, why string, r api.Receiver, sub int, echo uint32, want api.Seg, e api.Errno) {
	t.Helper()
	a := expectOwn(t, why, r, struct{}{}, func(r api.Receiver, _ struct{}) answer { return tells(r, sub, echo) })
	expectSame(t, why, a, answer{seg: want, e: e})
	expectSame(t, why+": by the definition", a, tellsBy(r, sub, echo))
}

// expectRead checks what Read returns.
func expectRead(t *testing.T, why string, r api.Receiver, n int, b []byte, e api.Errno) answer {
	t.Helper()
	a := expectOwn(t, why, r, struct{}{}, func(r api.Receiver, _ struct{}) answer { return reads(r, n) })
	expectEqual(t, why+": bytes", a.b, b)
	expectSame(t, why, a, readsBy(r, n))
	if a.e != e {
		t.Errorf("%s: error %d instead of %d", why, a.e, e)
	}
	expectSound(t, why, r, a)
	return a
}

// isValid reports whether the document calls r valid.
func isValid(r api.Receiver) bool {
	valid := weave.May(r.W)
	for _, s := range r.S {
		valid = valid && spans.May(s.Got) && marks.May(s.M)
	}
	return valid
}

// sure returns a result that comes without an error.
func sure[T any](x T, e api.Errno) T {
	if e != api.OK {
		panic("an error that the document rules out")
	}
	return x
}

// missingBy returns the first position from 0 on that is not in a valid list.
func missingBy(l []api.Span) int {
	if len(l) == 0 || l[0].From > 0 {
		return 0
	}
	return l[0].Upto
}

// cumulativeBy returns the cumulative position of a valid receive buffer.
func cumulativeBy(w api.Weave) int {
	n := w.Base
	if len(w.Got) > 0 && w.Got[0].From == w.Base {
		n = w.Got[0].Upto
	}
	if w.End == n {
		n++
	}
	return n
}

// edgeBy returns the edge of a valid receive buffer.
func edgeBy(w api.Weave) int {
	if w.Base > 1<<61-w.Cap {
		return 1 << 61
	}
	return w.Base + w.Cap
}

// lowBy returns what is transmitted of a number from 0 on.
func lowBy(n int) uint32 { return uint32(n % (1 << 32)) }

// tellsBy returns what the document says Told returns.
func tellsBy(r api.Receiver, sub int, echo uint32) answer {
	if !isValid(r) || sub < 0 || sub > 3 {
		return answer{e: api.ErrArg}
	}
	s := r.S[sub]
	y := api.Seg{Kind: 3, Sub: sub, Ecn: true, Echo: echo, Got: lowBy(missingBy(s.Got)), Dgot: lowBy(cumulativeBy(r.W))}
	rest := s.Got
	if len(rest) > 0 && rest[0].From == 0 {
		rest = rest[1:]
	}
	if len(rest) > 3 {
		rest = rest[:3]
	}
	for _, p := range rest {
		y.Sacks = append(y.Sacks, api.Pair{From: lowBy(p.From), Upto: lowBy(p.Upto)})
	}
	switch free := edgeBy(r.W) - cumulativeBy(r.W); {
	case free > 65535:
		y.Win = 65535
	case free > 0:
		y.Win = free
	}
	y.Ace, y.Ce = s.M.Packets%8, uint32(s.M.Bytes%(1<<24))
	return answer{seg: y}
}

// takesBy returns what the document says Take returns.
func takesBy(r api.Receiver, x api.Seg, marked bool) answer {
	if !isValid(r) {
		return answer{e: api.ErrArg}
	}
	fine := x.Sub >= 0 && x.Sub <= 3 && x.Win >= 0 && x.Win <= 65535 && x.Ace >= 0 && x.Ace <= 7 && x.Ce < 1<<24 && len(x.Sacks) <= 3 && len(x.B) <= 1460
	if !fine || x.Kind != 2 || x.Fin && len(x.B) > 0 || !x.Fin && len(x.B) == 0 {
		return answer{e: api.ErrForm}
	}
	n := len(x.B)
	if x.Fin {
		n = 1
	}
	s := &r.S[x.Sub]
	seq := seqno.Unwrap(missingBy(s.Got), x.Seq)
	dsn := seqno.Unwrap(cumulativeBy(r.W), x.Dsn)
	if !x.Fin && dsn+n > edgeBy(r.W) {
		return answer{e: api.ErrFull}
	}
	var e api.Errno
	if x.Fin {
		r.W, e = weave.Shut(r.W, dsn)
	} else {
		r.W, _, e = weave.Put(r.W, dsn, x.B)
	}
	if e != api.OK {
		return answer{e: e}
	}
	if s.Got, e = spans.Add(s.Got, api.Span{From: seq, Upto: seq + n}); e != api.OK {
		return answer{e: e}
	}
	if marked {
		s.M.Packets++
		s.M.Bytes += n
		if s.M.Packets > 1<<60 || s.M.Bytes > 1<<60 {
			return answer{e: api.ErrOver}
		}
	}
	return answer{receiver: r, seg: tellsBy(r, x.Sub, x.At).seg}
}

// readsBy returns what the document says Read returns.
func readsBy(r api.Receiver, n int) answer {
	if !isValid(r) || n < 0 {
		return answer{e: api.ErrArg}
	}
	w, b, e := weave.Read(r.W, n)
	r.W = w
	return answer{receiver: r, b: sure(b, e)}
}
