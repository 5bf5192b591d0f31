package keep_test

import (
	"bytes"
	"fmt"
	"math"
	"testing"

	"fourinhand/api"
	"fourinhand/keep"
)

// last is the greatest end that a send buffer has.
const last = 1 << 61

// stream returns the first n bytes of a stream in which any 251 bytes in a row differ.
func stream(n int) []byte {
	b := make([]byte, n)
	for i := range b {
		b[i] = byte(i%251 + 1)
	}
	return b
}

// equal reports whether two send buffers are the same, whether or not an empty list is nil.
func equal(k, l api.Keep) bool {
	return k.Base == l.Base && k.Cap == l.Cap && k.Shut == l.Shut && bytes.Equal(k.B, l.B)
}

// isZero reports whether a send buffer is the zero value, but for an empty list.
func isZero(k api.Keep) bool { return equal(k, api.Keep{}) }

// show describes a send buffer without telling thousands of bytes.
func show(k api.Keep) string {
	return fmt.Sprintf("{Base %d, %d bytes %.20q, Cap %d, Shut %v}", k.Base, len(k.B), k.B, k.Cap, k.Shut)
}

// valid send buffers.
func valid() []api.Keep {
	return []api.Keep{
		{}, {B: []byte{}}, {Cap: 1}, {Cap: api.MaxCap}, {Base: 7}, {Base: 7, Cap: 3}, {Base: last}, {Base: last, Cap: 9}, {Base: last, Cap: api.MaxCap},
		{Base: last, B: []byte{}, Cap: 9}, {B: []byte("a"), Cap: 1}, {B: []byte("abc"), Cap: 3}, {B: []byte("abc"), Cap: 5}, {Base: 10, B: []byte("abcdef"), Cap: 6},
		{Base: 10, B: []byte("abcdef"), Cap: 9}, {Base: last - 1, B: []byte("a"), Cap: 1}, {Base: last - 1, B: []byte("a"), Cap: 9}, {Base: last - 6, B: []byte("abcdef"), Cap: 6},
		{Base: last - 7, B: []byte("abcdef"), Cap: 20}, {Base: last - 1, Cap: 9}, {B: stream(api.MaxCap), Cap: api.MaxCap}, {B: stream(api.MaxCap - 1), Cap: api.MaxCap},
		{Base: last - api.MaxCap, B: stream(api.MaxCap), Cap: api.MaxCap}, {Base: last - api.MaxCap, Cap: api.MaxCap}, {Base: 3, Shut: true}, {Base: 3, B: []byte("abc"), Cap: 5, Shut: true},
		{Base: last - 3, B: []byte("abc"), Cap: 3, Shut: true},
	}
}

// invalid send buffers, and why they are that.
func invalid() map[string]api.Keep {
	return map[string]api.Keep{
		"a negative Base":                                     {Base: -1, Cap: 9},
		"a negative Base, and an end that is not":             {Base: -1, B: []byte("abc"), Cap: 9},
		"a negative Base, and an end of 0":                    {Base: -3, B: []byte("abc"), Cap: 9},
		"the least Base":                                      {Base: math.MinInt, Cap: 9},
		"the least Base, and bytes":                           {Base: math.MinInt, B: []byte("abc"), Cap: 9},
		"a negative Cap":                                      {Cap: -1},
		"a negative Cap, and bytes":                           {B: []byte("a"), Cap: -1},
		"the least Cap":                                       {Cap: math.MinInt},
		"the least Cap, and bytes":                            {B: []byte("abc"), Cap: math.MinInt},
		"a Cap greater than 65536":                            {Cap: api.MaxCap + 1},
		"a Cap greater than 65536, and bytes":                 {B: []byte("abc"), Cap: api.MaxCap + 1},
		"a Cap greater than 65536, and as many bytes":         {B: stream(api.MaxCap + 1), Cap: api.MaxCap + 1},
		"the greatest Cap":                                    {Cap: math.MaxInt},
		"one byte, and a Cap of 0":                            {B: []byte("a")},
		"one byte more than Cap":                              {B: []byte("abcd"), Cap: 3},
		"many bytes more than Cap":                            {B: stream(5000), Cap: 3},
		"one byte more than the greatest Cap":                 {B: stream(api.MaxCap + 1), Cap: api.MaxCap},
		"a Base greater than 2^61":                            {Base: last + 1, Cap: 9},
		"a Base greater than 2^61, and a Cap of 0":            {Base: last + 1},
		"a Base of 2^61, and a byte":                          {Base: last, B: []byte("a"), Cap: 9},
		"an end one greater than 2^61":                        {Base: last - 2, B: []byte("abc"), Cap: 3},
		"an end one greater than 2^61, with 65536 bytes":      {Base: last - api.MaxCap + 1, B: stream(api.MaxCap), Cap: api.MaxCap},
		"a Base of 2^62":                                      {Base: api.Range, Cap: 9},
		"the greatest Base":                                   {Base: math.MaxInt, Cap: 9},
		"the greatest Base, and an end that is no int":        {Base: math.MaxInt, B: []byte("abc"), Cap: 9},
		"an end that is the least int":                        {Base: math.MaxInt, B: []byte("a"), Cap: 9},
		"Base and Cap as great as can be":                     {Base: math.MaxInt, B: []byte("abc"), Cap: math.MaxInt},
		"Base and Cap as small as can be":                     {Base: math.MinInt, B: []byte("abc"), Cap: math.MinInt},
		"a negative Base, and Shut":                           {Base: -1, Cap: 9, Shut: true},
		"a negative Cap, and Shut":                            {Cap: -1, Shut: true},
		"one byte more than Cap, and Shut":                    {B: []byte("abcd"), Cap: 3, Shut: true},
		"an end greater than 2^61, and Shut":                  {Base: last - 2, B: []byte("abc"), Cap: 3, Shut: true},
		"a Base, a Cap and bytes that are all too great":      {Base: last + 1, B: stream(api.MaxCap + 2), Cap: api.MaxCap + 1},
		"as many bytes as a Cap may be, and none may be kept": {B: stream(api.MaxCap)},
	}
}

// numbers are positions and counts about a send buffer, and those as great and as small as an int can be.
func numbers(k api.Keep) []int {
	l := []int{math.MinInt, math.MinInt + 1, -api.Range, -last, -api.MaxCap, last - 1, last, last + 1, api.Range, api.Range + 1, math.MaxInt - api.MaxCap, math.MaxInt - 1, math.MaxInt}
	for i := -3; i <= min(len(k.B), 9)+3; i++ {
		l = append(l, i, k.Base+i, k.Base+len(k.B)+i)
	}
	return l
}

// P5.1: May.
func TestMay(t *testing.T) {
	for _, k := range valid() {
		if !keep.May(k) {
			t.Errorf("valid: %s", show(k))
		}
	}
	for why, k := range invalid() {
		if keep.May(k) {
			t.Errorf("not valid: %s", why)
		}
	}
}

// P5.1: End.
func TestEnd(t *testing.T) {
	for _, c := range []struct {
		k    api.Keep
		want int
	}{
		{api.Keep{}, 0}, {api.Keep{B: []byte("abc"), Cap: 3}, 3}, {api.Keep{Base: 10, B: []byte("abc"), Cap: 5}, 13}, {api.Keep{Base: 10, Cap: 5}, 10},
		{api.Keep{Base: 10, B: []byte("abc"), Cap: 5, Shut: true}, 13}, {api.Keep{B: stream(api.MaxCap), Cap: api.MaxCap}, 65536},
		{api.Keep{Base: last}, last}, {api.Keep{Base: last - 3, B: []byte("abc"), Cap: 5}, last}, {api.Keep{Base: last - 4, B: []byte("abc"), Cap: 5}, last - 1},
	} {
		if n := keep.End(c.k); n != c.want {
			t.Errorf("the end of %s is %d instead of %d", show(c.k), n, c.want)
		}
	}
	for why, k := range invalid() {
		if n := keep.End(k); n != 0 {
			t.Errorf("not valid, but its end is %d: %s", n, why)
		}
	}
}

// P5.1: Write, on results that were worked out by hand.
func TestWrite(t *testing.T) {
	const full = api.MaxCap
	for _, c := range []struct {
		k    api.Keep
		b    string
		n    int
		want string
		why  string
	}{
		{api.Keep{Cap: 4}, "abcdef", 4, "abcd", "the document's example"},
		{api.Keep{Cap: 6}, "abcdef", 6, "abcdef", "fits exactly"},
		{api.Keep{Cap: 7}, "abcdef", 6, "abcdef", "fits"},
		{api.Keep{Cap: 5}, "abcdef", 5, "abcde", "one too many"},
		{api.Keep{Cap: 1}, "abcdef", 1, "a", "one byte"},
		{api.Keep{}, "abcdef", 0, "", "a Cap of 0"},
		{api.Keep{}, "", 0, "", "a Cap of 0, and no bytes"},
		{api.Keep{Cap: 9}, "", 0, "", "no bytes"},
		{api.Keep{B: []byte("abc"), Cap: 9}, "", 0, "abc", "no bytes behind others"},
		{api.Keep{Base: 10, B: []byte("abc"), Cap: 9}, "de", 2, "abcde", "behind others"},
		{api.Keep{Base: 10, B: []byte("abc"), Cap: 5}, "de", 2, "abcde", "fits exactly, behind others"},
		{api.Keep{Base: 10, B: []byte("abc"), Cap: 5}, "defgh", 2, "abcde", "a part, behind others"},
		{api.Keep{Base: 10, B: []byte("abc"), Cap: 4}, "defgh", 1, "abcd", "one byte, behind others"},
		{api.Keep{Base: 10, B: []byte("abc"), Cap: 3}, "defgh", 0, "abc", "full"},
		{api.Keep{Base: 10, B: []byte("abc"), Cap: 3}, "", 0, "abc", "full, and no bytes"},
		{api.Keep{Base: last - 5, B: []byte("abc"), Cap: 9}, "de", 2, "abcde", "up to 2^61 exactly"},
		{api.Keep{Base: last - 5, B: []byte("abc"), Cap: 9}, "def", 2, "abcde", "one beyond 2^61"},
		{api.Keep{Base: last - 4, B: []byte("abc"), Cap: 9}, "defghi", 1, "abcd", "a part, because of 2^61"},
		{api.Keep{Base: last - 3, B: []byte("abc"), Cap: 9}, "def", 0, "abc", "its end is 2^61"},
		{api.Keep{Base: last, Cap: 9}, "def", 0, "", "its Base is 2^61"},
		{api.Keep{Base: last - 1, Cap: 9}, "def", 1, "d", "one before 2^61"},
		{api.Keep{Base: last - 5, B: []byte("abc"), Cap: 4}, "def", 1, "abcd", "Cap allows less than 2^61"},
		{api.Keep{Base: last - 4, B: []byte("abc"), Cap: 5}, "def", 1, "abcd", "2^61 allows less than Cap"},
		{api.Keep{Base: last - 5, B: []byte("abc"), Cap: 5}, "def", 2, "abcde", "2^61 allows as much as Cap"},
		{api.Keep{Cap: full}, string(stream(full)), full, string(stream(full)), "65536 bytes"},
		{api.Keep{Cap: full}, string(stream(full + 1)), full, string(stream(full)), "65537 bytes"},
		{api.Keep{Cap: full}, string(stream(200000)), full, string(stream(full)), "many bytes"},
		{api.Keep{B: stream(full - 1), Cap: full}, "xy", 1, string(stream(full-1)) + "x", "behind 65535 bytes"},
		{api.Keep{B: stream(full), Cap: full}, "xy", 0, string(stream(full)), "behind 65536 bytes"},
		{api.Keep{Base: last - full, Cap: full}, string(stream(full + 1)), full, string(stream(full)), "65536 bytes up to 2^61"},
		{api.Keep{Base: last - full + 1, Cap: full}, string(stream(full)), full - 1, string(stream(full - 1)), "65535 bytes up to 2^61"},
	} {
		want := c.k
		want.B = []byte(c.want)
		k, n, e := keep.Write(c.k, []byte(c.b))
		if n != c.n || e != api.OK || !equal(k, want) {
			t.Errorf("%s: %s %d %d", c.why, show(k), n, e)
		}
	}
}

// P5.1: a Write of no bytes, nil and empty.
func TestWriteNothing(t *testing.T) {
	for _, k := range valid() {
		if k.Shut {
			continue
		}
		for _, b := range [][]byte{nil, {}} {
			if l, n, e := keep.Write(k, b); n != 0 || e != api.OK || !equal(l, k) {
				t.Errorf("nothing is written to %s: %s %d %d", show(k), show(l), n, e)
			}
		}
	}
}

// P5.1: a Write after Shut.
func TestWriteShut(t *testing.T) {
	for _, k := range valid() {
		k.Shut = true
		for _, b := range [][]byte{nil, {}, []byte("a"), []byte("abc"), stream(api.MaxCap + 1)} {
			if l, n, e := keep.Write(k, b); n != 0 || e != api.ErrDone || !isZero(l) {
				t.Errorf("%d bytes are written to %s: %s %d %d", len(b), show(k), show(l), n, e)
			}
		}
	}
}

// P5.1: Shut changes nothing else; it may be called again.
func TestShut(t *testing.T) {
	for _, k := range valid() {
		want := k
		want.Shut = true
		s, e := keep.Shut(k)
		if e != api.OK || !equal(s, want) {
			t.Errorf("Shut of %s: %s %d", show(k), show(s), e)
		}
		if s, e = keep.Shut(s); e != api.OK || !equal(s, want) {
			t.Errorf("Shut of %s, twice: %s %d", show(k), show(s), e)
		}
	}
}

// P5.1, P5.2, R2: a send buffer that is not valid is ErrArg, whatever else applies.
func TestNotValid(t *testing.T) {
	for why, k := range invalid() {
		for _, b := range [][]byte{nil, {}, []byte("abc")} {
			if l, n, e := keep.Write(k, b); n != 0 || e != api.ErrArg || !isZero(l) {
				t.Errorf("%s: Write returns %s %d %d", why, show(l), n, e)
			}
		}
		if l, e := keep.Shut(k); e != api.ErrArg || !isZero(l) {
			t.Errorf("%s: Shut returns %s %d", why, show(l), e)
		}
		for _, upto := range numbers(k) {
			if l, e := keep.Ack(k, upto); e != api.ErrArg || !isZero(l) {
				t.Errorf("%s: Ack of %d returns %s %d", why, upto, show(l), e)
			}
			for _, n := range numbers(k) {
				if b := keep.Part(k, upto, n); len(b) != 0 {
					t.Errorf("%s: Part of %d and %d returns %d bytes", why, upto, n, len(b))
				}
			}
		}
	}
}

// P5.2: Part, on results that were worked out by hand.
func TestPart(t *testing.T) {
	k := api.Keep{Base: 10, B: []byte("abcdef"), Cap: 9}
	for _, c := range []struct {
		from, n int
		want    string
		why     string
	}{
		{10, 6, "abcdef", "all"},
		{10, 5, "abcde", "all but the last one"},
		{10, 7, "abcdef", "more than all"},
		{10, math.MaxInt, "abcdef", "the greatest n"},
		{10, 1, "a", "the first one"},
		{10, 0, "", "none at Base"},
		{10, -1, "", "a negative n at Base"},
		{11, 5, "bcdef", "all but the first one"},
		{12, 3, "cde", "within the bytes"},
		{12, 4, "cdef", "exactly what is left"},
		{12, 5, "cdef", "one more than what is left"},
		{12, math.MaxInt, "cdef", "the greatest n, within the bytes"},
		{12, math.MaxInt - 12, "cdef", "from and n are the greatest int together"},
		{12, math.MaxInt - 11, "cdef", "from and n are more than the greatest int together"},
		{12, 0, "", "none within the bytes"},
		{12, -1, "", "a negative n within the bytes"},
		{12, math.MinInt, "", "the least n"},
		{15, 1, "f", "the last one"},
		{15, 2, "f", "one more than the last one"},
		{16, 1, "", "at the end"},
		{16, 0, "", "none at the end"},
		{16, -1, "", "a negative n at the end"},
		{16, math.MaxInt, "", "the greatest n at the end"},
		{17, 1, "", "behind the end"},
		{17, math.MaxInt, "", "the greatest n behind the end"},
		{last, 3, "", "at 2^61"},
		{math.MaxInt, 1, "", "the greatest from"},
		{math.MaxInt, math.MaxInt, "", "the greatest from and n"},
		{math.MaxInt, math.MinInt, "", "the greatest from and the least n"},
		{9, 3, "", "one before Base"},
		{9, math.MaxInt, "", "the greatest n before Base"},
		{5, 8, "", "before Base, and over it"},
		{0, 20, "", "0"},
		{-1, 20, "", "negative"},
		{math.MinInt, 3, "", "the least from"},
		{math.MinInt, math.MaxInt, "", "the least from and the greatest n"},
		{math.MinInt, math.MinInt, "", "the least from and n"},
	} {
		for _, shut := range []bool{false, true} {
			k.Shut = shut
			if b := keep.Part(k, c.from, c.n); string(b) != c.want {
				t.Errorf("%s: %q instead of %q", c.why, b, c.want)
			}
		}
	}
}

// P5.2: Part of the greatest send buffers.
func TestPartOfMany(t *testing.T) {
	all := stream(api.MaxCap)
	for _, base := range []int{0, 1 << 32, last - api.MaxCap} {
		k := api.Keep{Base: base, B: all, Cap: api.MaxCap}
		for _, c := range []struct{ i, n, behind int }{
			{0, api.MaxCap, api.MaxCap}, {0, math.MaxInt, api.MaxCap}, {0, api.MaxCap - 1, api.MaxCap - 1}, {1, api.MaxCap, api.MaxCap}, {1, api.MaxCap - 1, api.MaxCap},
			{1460, 1460, 2920}, {65535, 1, 65536}, {65535, 1460, 65536}, {65536, 1460, 65536}, {65000, math.MaxInt, 65536}, {65000, 536, 65536}, {65000, 535, 65535},
		} {
			if b := keep.Part(k, base+c.i, c.n); !bytes.Equal(b, all[c.i:c.behind]) {
				t.Errorf("%d bytes from the %dth one on, at %d: %d bytes", c.n, c.i, base, len(b))
			}
		}
	}
}

// P5.2: Ack, on results that were worked out by hand.
func TestAck(t *testing.T) {
	k := api.Keep{Base: 10, B: []byte("abcdef"), Cap: 9}
	for _, c := range []struct {
		upto, base int
		want       string
		why        string
	}{
		{10, 10, "abcdef", "at Base"},
		{9, 10, "abcdef", "one before Base"},
		{0, 10, "abcdef", "0"},
		{-1, 10, "abcdef", "negative"},
		{-last, 10, "abcdef", "-2^61"},
		{math.MinInt, 10, "abcdef", "the least one"},
		{math.MinInt + 9, 10, "abcdef", "a difference from Base that is no int"},
		{11, 11, "bcdef", "one byte"},
		{13, 13, "def", "within the bytes"},
		{15, 15, "f", "all but one"},
		{16, 16, "", "at the end"},
	} {
		for _, shut := range []bool{false, true} {
			k.Shut = shut
			want := api.Keep{Base: c.base, B: []byte(c.want), Cap: 9, Shut: shut}
			if l, e := keep.Ack(k, c.upto); e != api.OK || !equal(l, want) {
				t.Errorf("%s: %s %d", c.why, show(l), e)
			}
		}
	}
	for _, upto := range []int{17, 18, 100, last - 1, last, last + 1, api.Range, math.MaxInt - 1, math.MaxInt} {
		for _, shut := range []bool{false, true} {
			k.Shut = shut
			if l, e := keep.Ack(k, upto); e != api.ErrNone || !isZero(l) {
				t.Errorf("%d is behind the end: %s %d", upto, show(l), e)
			}
		}
	}
	w, n, e := keep.Write(api.Keep{Cap: 4}, []byte("abcdef"))
	a, f := keep.Ack(w, 2)
	if n != 4 || e != api.OK || f != api.OK || !equal(a, api.Keep{Base: 2, B: []byte("cd"), Cap: 4}) {
		t.Errorf("the document's example: %d %d, then %s %d", n, e, show(a), f)
	}
}

// P5.2: Ack where the end is as great as can be, and where there are no bytes.
func TestAckAtTheEnds(t *testing.T) {
	top := api.Keep{Base: last - 3, B: []byte("abc"), Cap: 5}
	for _, c := range []struct {
		k    api.Keep
		upto int
		want api.Keep
		e    api.Errno
	}{
		{top, last, api.Keep{Base: last, Cap: 5}, api.OK},
		{top, last - 1, api.Keep{Base: last - 1, B: []byte("c"), Cap: 5}, api.OK},
		{top, last + 1, api.Keep{}, api.ErrNone},
		{api.Keep{}, 0, api.Keep{}, api.OK},
		{api.Keep{}, -1, api.Keep{}, api.OK},
		{api.Keep{}, math.MinInt, api.Keep{}, api.OK},
		{api.Keep{}, 1, api.Keep{}, api.ErrNone},
		{api.Keep{Base: 7, Cap: 2}, 7, api.Keep{Base: 7, Cap: 2}, api.OK},
		{api.Keep{Base: 7, Cap: 2}, 6, api.Keep{Base: 7, Cap: 2}, api.OK},
		{api.Keep{Base: 7, Cap: 2}, 8, api.Keep{}, api.ErrNone},
		{api.Keep{Base: last}, last, api.Keep{Base: last}, api.OK},
		{api.Keep{Base: last}, last + 1, api.Keep{}, api.ErrNone},
	} {
		if l, e := keep.Ack(c.k, c.upto); e != c.e || !equal(l, c.want) {
			t.Errorf("Ack of %d of %s: %s %d", c.upto, show(c.k), show(l), e)
		}
	}
	all := stream(api.MaxCap)
	for _, i := range []int{0, 1, 1460, 65535, 65536} {
		l, e := keep.Ack(api.Keep{Base: 5, B: all, Cap: api.MaxCap}, 5+i)
		if e != api.OK || !equal(l, api.Keep{Base: 5 + i, B: all[i:], Cap: api.MaxCap}) {
			t.Errorf("Ack of %d of 65536 bytes: %s %d", i, show(l), e)
		}
	}
}

// small returns all valid send buffers with a small Cap at a few places.
func small() []api.Keep {
	var l []api.Keep
	for _, base := range []int{0, 1, 7, 1 << 32, last - 7, last - 5, last - 4, last - 3, last - 2, last - 1, last} {
		for limit := range 6 {
			for n := 0; n <= limit && base+n <= last; n++ {
				l = append(l, api.Keep{Base: base, B: stream(n), Cap: limit}, api.Keep{Base: base, B: stream(n), Cap: limit, Shut: true})
			}
		}
	}
	return l
}

// P5.1: Write to all small send buffers: one byte more than it accepts would make them not valid.
func TestWriteSmall(t *testing.T) {
	for _, k := range small() {
		for m := range 9 {
			b := bytes.ToUpper([]byte("abcdefghi"[:m]))
			l, n, e := keep.Write(k, b)
			if k.Shut {
				if n != 0 || e != api.ErrDone || !isZero(l) {
					t.Errorf("%q to %s: %s %d %d", b, show(k), show(l), n, e)
				}
				continue
			}
			want := k
			for _, c := range b {
				if len(want.B) == k.Cap || k.Base+len(want.B) == last {
					break
				}
				want.B = append(want.B[:len(want.B):len(want.B)], c)
			}
			if n != len(want.B)-len(k.B) || e != api.OK || !equal(l, want) {
				t.Errorf("%q to %s: %s %d %d", b, show(k), show(l), n, e)
			}
		}
	}
}

// partOf returns what Part is to return of a valid send buffer, byte by byte.
func partOf(k api.Keep, from, n int) []byte {
	var b []byte
	for i, c := range k.B {
		if position := k.Base + i; k.Base <= from && from <= position && position-from < n {
			b = append(b, c)
		}
	}
	return b
}

// P5.2: Part of all small send buffers.
func TestPartSmall(t *testing.T) {
	for _, k := range small() {
		for _, from := range numbers(k) {
			for _, n := range append(numbers(k), 0, 1, 2, 3, 4, 5, 6) {
				if b := keep.Part(k, from, n); !bytes.Equal(b, partOf(k, from, n)) {
					t.Errorf("%d and %d of %s: %q", from, n, show(k), b)
				}
			}
		}
	}
}

// P5.2: Ack of all small send buffers.
func TestAckSmall(t *testing.T) {
	for _, k := range small() {
		for _, upto := range numbers(k) {
			l, e := keep.Ack(k, upto)
			if upto > k.Base+len(k.B) {
				if e != api.ErrNone || !isZero(l) {
					t.Errorf("%d of %s: %s %d", upto, show(k), show(l), e)
				}
				continue
			}
			want := api.Keep{Base: max(k.Base, upto), Cap: k.Cap, Shut: k.Shut}
			for i, c := range k.B {
				if k.Base+i >= upto {
					want.B = append(want.B, c)
				}
			}
			if e != api.OK || !equal(l, want) {
				t.Errorf("%d of %s: %s %d", upto, show(k), show(l), e)
			}
		}
	}
}

// expectKept expects that a send buffer has the bytes of all from one index on up to another one, at the positions behind base.
func expectKept(t *testing.T, k api.Keep, base int, all []byte, from, upto int) {
	t.Helper()
	if len(k.B) > k.Cap || !keep.May(k) || keep.End(k) != base+upto || k.Base != base+from {
		t.Fatalf("%s instead of %d to %d from %d on", show(k), from, upto, base)
	}
	for i := from; i < upto; i++ {
		if b := keep.Part(k, base+i, 1); len(b) != 1 || b[0] != all[i] {
			t.Fatalf("%v at %d of %s", b, base+i, show(k))
		}
	}
	if b := keep.Part(k, base+from, upto-from); !bytes.Equal(b, all[from:upto]) {
		t.Fatalf("%q are all of %s", b, show(k))
	}
}

// P5.3: bytes go through a send buffer; each one can be read at its position until it is removed, and there are never more than Cap.
func TestStream(t *testing.T) {
	all := stream(900)
	for _, limit := range []int{1, 2, 7, 64, 1000} {
		for _, base := range []int{0, 12345, last - len(all)} {
			k, done, written := api.Keep{Base: base, Cap: limit}, 0, 0
			for step := 0; done < len(all); step++ {
				piece := all[written:min(len(all), written+step*step%11)]
				l, n, e := keep.Write(k, piece)
				if want := min(len(piece), limit-(written-done)); n != want || e != api.OK {
					t.Fatalf("%d of %d bytes and error %d: %s", n, len(piece), e, show(k))
				}
				written += n
				expectKept(t, l, base, all, done, written)
				// Every third one is for what has been removed before.
				upto := done + (written-done)*(step%4)/3
				if step%3 == 0 {
					upto = max(done-2, 0)
				}
				k, e = keep.Ack(l, base+upto)
				if e != api.OK {
					t.Fatalf("Ack of %d: %d", base+upto, e)
				}
				done = max(done, upto)
				expectKept(t, k, base, all, done, written)
			}
		}
	}
}

// P5.3: what is written is behind what is left, also after Ack and up to the end of all positions.
func TestWriteAfterAck(t *testing.T) {
	k, _, _ := keep.Write(api.Keep{Base: last - 8, Cap: 6}, []byte("abcdefgh"))
	k, _ = keep.Ack(k, last-5)
	if !equal(k, api.Keep{Base: last - 5, B: []byte("def"), Cap: 6}) {
		t.Errorf("%s is left", show(k))
	}
	k, n, e := keep.Write(k, []byte("ghijkl"))
	if n != 2 || e != api.OK || !equal(k, api.Keep{Base: last - 5, B: []byte("defgh"), Cap: 6}) {
		t.Errorf("%s after %d and %d", show(k), n, e)
	}
	k, e = keep.Ack(k, last)
	if e != api.OK || !equal(k, api.Keep{Base: last, Cap: 6}) {
		t.Errorf("%s after %d", show(k), e)
	}
	if k, n, e = keep.Write(k, []byte("i")); n != 0 || e != api.OK || !equal(k, api.Keep{Base: last, Cap: 6}) {
		t.Errorf("%s after %d and %d", show(k), n, e)
	}
}

// within returns bytes with others before and behind them in memory, and all of that memory.
func within(s string) (b, memory []byte) {
	memory = []byte("<<<" + s + ">>>>>>>>")
	return memory[3 : 3+len(s)], memory
}

// spoil overwrites bytes, and the memory behind them that belongs to the same slice.
func spoil(b []byte) {
	clear(b[:cap(b)])
}

// R3: arguments are not modified, nor the memory around them, and nothing that a caller does to a result changes them.
func TestArgumentsStay(t *testing.T) {
	for _, limit := range []int{6, 7, 9, 20} {
		b, memory := within("abcdef")
		more, memory2 := within("ghi")
		k := api.Keep{Base: 10, B: b, Cap: limit}
		before, before2 := string(memory), string(memory2)
		expectSame := func(call string) {
			t.Helper()
			if string(memory) != before || string(memory2) != before2 || !equal(k, api.Keep{Base: 10, B: []byte("abcdef"), Cap: limit}) {
				t.Fatalf("%s modified %q or %q", call, memory, memory2)
			}
		}
		for _, upto := range []int{0, 10, 12, 16} {
			l, _ := keep.Ack(k, upto)
			expectSame("Ack")
			spoil(l.B)
			expectSame("a change of the result of Ack")
			for _, n := range []int{0, 2, 6, 99} {
				p := keep.Part(k, upto, n)
				expectSame("Part")
				spoil(p)
				expectSame("a change of the result of Part")
			}
		}
		for _, w := range [][]byte{nil, {}, more[:0], more[:1], more} {
			l, _, _ := keep.Write(k, w)
			expectSame("Write")
			spoil(l.B)
			expectSame("a change of the result of Write")
		}
		l, _ := keep.Shut(k)
		expectSame("Shut")
		spoil(l.B)
		expectSame("a change of the result of Shut")
		keep.May(k)
		keep.End(k)
		expectSame("May or End")
	}
}

// R3: nothing that a caller does to the arguments changes a result.
func TestResultsStay(t *testing.T) {
	for _, own := range []string{"", "abcdef"} {
		for _, written := range []string{"", "ghi"} {
			b, memory := within(own)
			more, memory2 := within(written)
			k := api.Keep{Base: 10, B: b, Cap: 20}
			w, _, _ := keep.Write(k, more)
			s, _ := keep.Shut(k)
			a, _ := keep.Ack(k, 10)
			c, _ := keep.Ack(k, 10+len(own)/2)
			p := keep.Part(k, 10, 99)
			spoil(memory)
			spoil(memory2)
			if string(w.B) != own+written || string(s.B) != own || string(a.B) != own || string(c.B) != own[len(own)/2:] || string(p) != own {
				t.Errorf("%q and %q: %q %q %q %q %q", own, written, w.B, s.B, a.B, c.B, p)
			}
		}
	}
}

// R3: two results do not share memory, even where one was made from the other.
func TestResultsApart(t *testing.T) {
	k, _, _ := keep.Write(api.Keep{Cap: 20}, []byte("abc"))
	l, _, _ := keep.Write(k, []byte("def"))
	m, _, _ := keep.Write(k, []byte("ghi"))
	a, _ := keep.Ack(l, 1)
	s, _ := keep.Shut(a)
	p, q := keep.Part(l, 1, 2), keep.Part(l, 1, 3)
	if string(l.B) != "abcdef" || string(m.B) != "abcghi" {
		t.Errorf("%q and %q", l.B, m.B)
	}
	spoil(l.B)
	spoil(p)
	if string(k.B) != "abc" || string(m.B) != "abcghi" || string(a.B) != "bcdef" || string(s.B) != "bcdef" || string(q) != "bcd" {
		t.Errorf("%q %q %q %q %q", k.B, m.B, a.B, s.B, q)
	}
	spoil(a.B)
	if string(s.B) != "bcdef" {
		t.Errorf("%q", s.B)
	}
}

// R5: calls again return the same.
func TestCallsAgain(t *testing.T) {
	k := api.Keep{Base: 10, B: []byte("abcdef"), Cap: 9}
	for range 3 {
		w, n, _ := keep.Write(k, []byte("ghijk"))
		s, _ := keep.Shut(k)
		a, _ := keep.Ack(k, 12)
		if n != 3 || string(w.B) != "abcdefghi" || !s.Shut || string(a.B) != "cdef" || string(keep.Part(k, 11, 2)) != "bc" || keep.End(k) != 16 || k.Shut {
			t.Errorf("%s %d %s %s", show(w), n, show(s), show(a))
		}
	}
}
