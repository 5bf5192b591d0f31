package weave_test

import (
	"bytes"
	"fmt"
	"maps"
	"math"
	"slices"
	"strings"
	"testing"

	"fourinhand/api"
	"fourinhand/weave"
)

// last is the greatest edge that a receive buffer has.
const last = 1 << 61

// made returns a receive buffer with the bytes of a picture from base on, in which a dot is a position that has not come.
func made(base, limit, end int, picture string) api.Weave {
	w := api.Weave{Base: base, Cap: limit, End: end}
	for i, c := range []byte(picture) {
		if c == '.' {
			w.B = append(w.B, 0)
			continue
		}
		w.B = append(w.B, c)
		if n := len(w.Got); n > 0 && w.Got[n-1].Upto == base+i {
			w.Got[n-1].Upto++
		} else {
			w.Got = append(w.Got, api.Span{From: base + i, Upto: base + i + 1})
		}
	}
	return w
}

// list returns the spans of which the ends are given: From and Upto of the first one, of the second one, and so on.
func list(ends ...int) []api.Span {
	var l []api.Span
	for i := 0; i < len(ends); i += 2 {
		l = append(l, api.Span{From: ends[i], Upto: ends[i+1]})
	}
	return l
}

// stream returns the first n bytes of a stream in which any 251 bytes in a row differ.
func stream(n int) []byte {
	b := make([]byte, n)
	for i := range b {
		b[i] = byte(i%251 + 1)
	}
	return b
}

// whole returns a receive buffer with n bytes in a row from base on.
func whole(base, limit, end, n int) api.Weave {
	return api.Weave{Base: base, B: stream(n), Got: list(base, base+n), Cap: limit, End: end}
}

// combed returns a receive buffer with n spans of one byte "a" each, at the positions 2, 4, 6 and so on behind base.
func combed(base, n int) api.Weave {
	return made(base, api.MaxCap, -1, "."+strings.Repeat(".a", n))
}

// equal reports whether two receive buffers are the same, whether or not an empty list is nil.
func equal(w, v api.Weave) bool {
	return w.Base == v.Base && w.Cap == v.Cap && w.End == v.End && bytes.Equal(w.B, v.B) && slices.Equal(w.Got, v.Got)
}

// isZero reports whether a receive buffer is the zero value, but for empty lists.
func isZero(w api.Weave) bool { return equal(w, api.Weave{}) }

// show describes a receive buffer without telling thousands of bytes.
func show(w api.Weave) string {
	return fmt.Sprintf("{Base %d, %d bytes %.20q, %d spans %v, Cap %d, End %d}", w.Base, len(w.B), w.B, len(w.Got), w.Got[:min(len(w.Got), 5)], w.Cap, w.End)
}

// valid receive buffers.
func valid() []api.Weave {
	return []api.Weave{
		{}, {End: -1}, {B: []byte{}, Got: []api.Span{}, End: -1}, {Cap: 1, End: -1}, {Cap: api.MaxCap, End: -1}, {Cap: 8}, {Cap: 8, End: 1}, {Cap: 8, End: 8}, {Cap: 8, End: 9},
		{Cap: 8, End: last}, {Cap: 8, End: last + 1}, {Cap: 8, End: math.MaxInt}, {Base: 7, End: -1}, {Base: 7, Cap: 3, End: -1}, {Base: 7, Cap: 3, End: 7}, {Base: 7, Cap: 3, End: 8},
		{Base: last, End: -1}, {Base: last, Cap: 5, End: -1}, {Base: last, Cap: api.MaxCap, End: last}, {Base: last, Cap: 5, End: math.MaxInt}, {Base: last - 1, Cap: 5, End: last},
		made(0, 1, -1, "a"), made(0, 3, -1, "abc"), made(0, 3, 3, "abc"), made(0, 3, 4, "abc"), made(0, 5, -1, "abc"), made(0, 5, -1, "..c"), made(0, 3, 3, "..c"), made(0, 8, -1, ".bc..f"),
		made(10, 6, -1, "abcdef"), made(10, 6, 16, "abcdef"), made(10, 6, 17, ".bcdef"), made(10, 9, -1, "ab.de.g"), made(10, 9, math.MaxInt, "a"), made(10, 2, -1, ".b"),
		made(0, 3, -1, "\x00\x00\x00"), made(0, 8, -1, ".\x00.\x00a\x00"), made(last-1, 1, -1, "a"), made(last-1, 9, last, "a"), made(last-3, 9, last, "a.c"), made(last-3, 3, last+1, "..c"),
		whole(0, api.MaxCap, -1, api.MaxCap), whole(0, api.MaxCap, api.MaxCap, api.MaxCap), whole(last-api.MaxCap, api.MaxCap, last, api.MaxCap), whole(9, api.MaxCap, -1, api.MaxCap-1),
		combed(0, 999), combed(7, 1000), combed(last-api.MaxCap, 1000),
		{B: append(make([]byte, api.MaxCap-1), 'z'), Got: list(api.MaxCap-1, api.MaxCap), Cap: api.MaxCap, End: -1},
	}
}

// invalid receive buffers, and why they are that.
func invalid() map[string]api.Weave {
	return map[string]api.Weave{
		"a negative Cap":                                {Cap: -1, End: -1},
		"a negative Cap, and a Base":                    {Base: 5, Cap: -1, End: -1},
		"the least Cap":                                 {Cap: math.MinInt, End: -1},
		"a Cap greater than 65536":                      {Cap: api.MaxCap + 1, End: -1},
		"a Cap greater than 65536, and bytes":           made(0, api.MaxCap+1, -1, "abc"),
		"the greatest Cap":                              {Cap: math.MaxInt, End: -1},
		"a Base and a Cap of which the sum is no int":   {Base: last, Cap: math.MaxInt, End: -1},
		"a negative Base":                               {Base: -1, Cap: 9, End: -1},
		"a negative Base, and an End of 0":              {Base: -1, Cap: 9},
		"a negative Base, and bytes from 0 on":          {Base: -1, B: []byte("\x00a"), Got: list(0, 1), Cap: 9, End: -1},
		"the least Base":                                {Base: math.MinInt, Cap: 9, End: -1},
		"a Base greater than 2^61":                      {Base: last + 1, Cap: 9, End: -1},
		"a Base greater than 2^61, and a Cap of 0":      {Base: last + 1, End: -1},
		"a Base of 2^62":                                {Base: api.Range, Cap: 9, End: -1},
		"the greatest Base":                             {Base: math.MaxInt, Cap: 9, End: -1},
		"spans that touch":                              {B: []byte("ab"), Got: list(0, 1, 1, 2), Cap: 9, End: -1},
		"spans that overlap":                            {B: []byte("abc"), Got: list(0, 2, 1, 3), Cap: 9, End: -1},
		"the same span twice":                           {B: []byte("ab"), Got: list(0, 2, 0, 2), Cap: 9, End: -1},
		"the wrong order":                               {B: []byte("a\x00c"), Got: list(2, 3, 0, 1), Cap: 9, End: -1},
		"the wrong order, and the end of the first one": {Base: 3, B: []byte("\x00b"), Got: list(6, 7, 4, 5), Cap: 9, End: -1},
		"an empty span":                                 {Got: list(0, 0), Cap: 9, End: -1},
		"an empty span behind others":                   {B: []byte("a\x00\x00"), Got: list(0, 1, 3, 3), Cap: 9, End: -1},
		"a span that ends before it begins":             {Base: 2, Got: list(4, 2), Cap: 9, End: -1},
		"a negative From":                               {B: []byte("a"), Got: list(-1, 1), Cap: 9, End: -1},
		"a span greater than all numbers":               {B: []byte("a"), Got: list(math.MinInt, math.MaxInt), Cap: 9, End: -1},
		"an Upto greater than 2^62":                     {B: []byte("a"), Got: list(0, api.Range+1), Cap: 9, End: -1},
		"1001 spans":                                    combed(0, 1001),
		"a span that begins before Base":                {Base: 5, B: []byte("b"), Got: list(4, 6), Cap: 9, End: -1},
		"a span that ends at Base":                      {Base: 5, Got: list(3, 5), Cap: 9, End: -1},
		"a span that ends before Base":                  {Base: 5, Got: list(3, 4), Cap: 9, End: -1},
		"a span before Base, and another one":           {Base: 5, B: []byte("\x00b"), Got: list(3, 4, 6, 7), Cap: 9, End: -1},
		"a span before Base, and bytes for it":          {Base: 5, B: []byte("ab"), Got: list(3, 5), Cap: 9, End: -1},
		"a span that ends beyond the edge":              made(0, 2, -1, "abc"),
		"a span that ends beyond the edge, with a gap":  made(0, 2, -1, ".bc"),
		"a span that begins at the edge":                made(10, 2, -1, "..c"),
		"a span behind the edge":                        made(10, 2, -1, "a...c"),
		"a byte, and a Cap of 0":                        made(10, 0, -1, "a"),
		"65537 bytes":                                   whole(0, api.MaxCap, -1, api.MaxCap+1),
		"a span that ends beyond 2^61":                  made(last-1, 5, -1, "ab"),
		"a span at 2^61":                                made(last, 5, -1, "a"),
		"a span far behind the edge, and few bytes":     {B: []byte("a"), Got: list(0, api.Range), Cap: 9, End: -1},
		"a byte too few":                                {B: []byte("ab"), Got: list(0, 3), Cap: 9, End: -1},
		"a byte too few behind a gap":                   {B: []byte{0, 0}, Got: list(2, 3), Cap: 9, End: -1},
		"no bytes":                                      {Got: list(0, 3), Cap: 9, End: -1},
		"a byte too many":                               {B: []byte("abcd"), Got: list(0, 3), Cap: 9, End: -1},
		"a byte of 0 too many":                          {B: []byte("abc\x00"), Got: list(0, 3), Cap: 9, End: -1},
		"bytes up to the edge":                          {B: []byte("abc\x00\x00"), Got: list(0, 3), Cap: 5, End: -1},
		"a byte of 0, and no span":                      {B: []byte{0}, Cap: 9, End: -1},
		"a byte, and no span":                           {Base: 7, B: []byte("a"), Cap: 9, End: -1},
		"as many bytes as from 0 on":                    {Base: 7, B: make([]byte, 9), Got: list(7, 9), Cap: 9, End: -1},
		"a byte in the first gap":                       {B: []byte("x\x00c"), Got: list(2, 3), Cap: 9, End: -1},
		"a byte at the end of the first gap":            {B: []byte("\x00xc"), Got: list(2, 3), Cap: 9, End: -1},
		"a byte in a gap":                               {B: []byte("a\x00xd"), Got: list(0, 1, 3, 4), Cap: 9, End: -1},
		"a byte at the begin of a gap":                  {Base: 7, B: []byte("ax\x00d"), Got: list(7, 8, 10, 11), Cap: 9, End: -1},
		"a byte in the last gap of three":               {B: []byte("\x00b\x00d\x01f"), Got: list(1, 2, 3, 4, 5, 6), Cap: 9, End: -1},
		"an End of -2":                                  {Cap: 9, End: -2},
		"an End of -2, and bytes":                       made(0, 9, -2, "abc"),
		"the least End":                                 {Cap: 9, End: math.MinInt},
		"an End less than Base":                         {Base: 5, Cap: 9, End: 4},
		"an End of 0, and a Base":                       {Base: 5, Cap: 9},
		"an End less than a Base of 2^61":               {Base: last, Cap: 9, End: last - 1},
		"an End less than the end of the last span":     made(0, 9, 2, "abc"),
		"an End at the begin of the last span":          made(10, 9, 12, "a.c"),
		"an End of Base, and a byte":                    made(10, 9, 10, "a"),
		"an End between spans":                          made(10, 9, 11, "a.c"),
	}
}

// numbers are positions and counts about a receive buffer, and those as great and as small as an int can be.
func numbers(w api.Weave) []int {
	l := []int{math.MinInt, math.MinInt + 1, -api.Range, -last, -api.MaxCap, last - 1, last, last + 1, api.Range, api.Range + 1, math.MaxInt - api.MaxCap, math.MaxInt - 1, math.MaxInt}
	for i := -3; i <= min(len(w.B), 9)+3; i++ {
		l = append(l, i, w.Base+i, w.Base+len(w.B)+i, w.Base+w.Cap+i)
	}
	return l
}

// P6.1: New.
func TestNew(t *testing.T) {
	for _, n := range []int{0, 1, 8, 1460, api.MaxCap - 1, api.MaxCap} {
		if w, e := weave.New(n); e != api.OK || !equal(w, api.Weave{Cap: n, End: -1}) || !weave.May(w) {
			t.Errorf("New of %d: %s %d", n, show(w), e)
		}
	}
	for _, n := range []int{math.MinInt, -last, -api.MaxCap, -2, -1, api.MaxCap + 1, api.MaxCap + 2, 1 << 32, last, api.Range, math.MaxInt} {
		if w, e := weave.New(n); e != api.ErrArg || !isZero(w) {
			t.Errorf("New of %d: %s %d", n, show(w), e)
		}
	}
}

// P6.1: May.
func TestMay(t *testing.T) {
	for _, w := range valid() {
		if !weave.May(w) {
			t.Errorf("valid: %s", show(w))
		}
	}
	for why, w := range invalid() {
		if weave.May(w) {
			t.Errorf("not valid: %s", why)
		}
	}
}

// P6.1: Edge.
func TestEdge(t *testing.T) {
	for _, c := range []struct {
		w    api.Weave
		want int
	}{
		{api.Weave{}, 0}, {api.Weave{Cap: 8, End: -1}, 8}, {api.Weave{Base: 7, End: -1}, 7}, {api.Weave{Base: 7, Cap: 8, End: -1}, 15}, {api.Weave{Cap: api.MaxCap, End: -1}, 65536},
		{made(10, 9, -1, "ab.d"), 19}, {made(10, 4, -1, "ab.d"), 14}, {made(10, 9, 14, "ab.d"), 19}, {api.Weave{Base: 10, Cap: 9, End: 10}, 19},
		{api.Weave{Base: last - 9, Cap: 8, End: -1}, last - 1}, {api.Weave{Base: last - 8, Cap: 8, End: -1}, last}, {api.Weave{Base: last - 7, Cap: 8, End: -1}, last},
		{api.Weave{Base: last - 7, End: -1}, last - 7}, {api.Weave{Base: last - 1, Cap: api.MaxCap, End: math.MaxInt}, last}, {api.Weave{Base: last, End: -1}, last}, {api.Weave{Base: last, Cap: 8, End: -1}, last},
	} {
		if n := weave.Edge(c.w); n != c.want {
			t.Errorf("the edge of %s is %d instead of %d", show(c.w), n, c.want)
		}
	}
	for why, w := range invalid() {
		if n := weave.Edge(w); n != 0 {
			t.Errorf("not valid, but its edge is %d: %s", n, why)
		}
	}
}

// P6.2: Put, on results that were worked out by hand.
func TestPut(t *testing.T) {
	for _, c := range []struct {
		base, limit, end int
		before           string
		at               int
		b                string
		n                int
		want             string
		why              string
	}{
		{0, 8, -1, "", 2, "cd", 2, "..cd", "the document's example, first"},
		{0, 8, -1, "..cd", 0, "ab", 2, "abcd", "the document's example, second"},
		{10, 8, -1, "", 10, "AB", 2, "AB", "at Base"},
		{10, 8, -1, "", 4, "ABCD", 0, "", "before Base"},
		{10, 8, -1, "", 6, "ABCD", 0, "", "before Base, up to it"},
		{10, 8, -1, "", 7, "ABCD", 1, "D", "over Base, one byte"},
		{10, 8, -1, "", 9, "ABCD", 3, "BCD", "over Base"},
		{10, 8, -1, ".bc", 0, "", 0, ".bc", "before Base, and no bytes"},
		{10, 8, -1, "ab", 7, "ABCDEF", 1, "abF", "over Base, and bytes that are there"},
		{10, 8, -1, "ab", 8, "ABC", 0, "ab", "over Base, and within what is there"},
		{10, 8, -1, "", 13, "AB", 2, "...AB", "behind a gap"},
		{10, 8, -1, "ab", 13, "AB", 2, "ab.AB", "behind bytes and a gap"},
		{10, 8, -1, "ab", 12, "AB", 2, "abAB", "behind bytes"},
		{10, 8, -1, "..cd", 11, "A", 1, ".Acd", "before bytes"},
		{10, 8, -1, "..cd", 10, "A", 1, "A.cd", "before a gap"},
		{10, 8, -1, "a.c", 11, "X", 1, "aXc", "the byte that is missing"},
		{10, 8, -1, "abcd", 11, "XY", 0, "abcd", "within what is there"},
		{10, 8, -1, "abcd", 10, "WXYZ", 0, "abcd", "what is there already"},
		{10, 8, -1, "abcd", 10, "abcd", 0, "abcd", "the same bytes again"},
		{10, 8, -1, "..cd", 12, "XYZ", 1, "..cdZ", "what is there, and a byte"},
		{10, 8, -1, "..cd", 13, "XYZ", 2, "..cdYZ", "the end of what is there, and bytes"},
		{10, 8, -1, "..cd", 10, "WXYZ", 2, "WXcd", "bytes, and what is there"},
		{10, 8, -1, "..cd", 11, "WXYZ", 2, ".WcdZ", "bytes on both sides of what is there"},
		{10, 8, -1, "a.c.e.g", 10, "STUVWXY", 3, "aTcVeXg", "over several spans"},
		{10, 8, -1, ".b.d.f", 10, "STUVWXYZ", 5, "SbUdWfYZ", "over several spans, to the edge"},
		{10, 8, -1, "ab..ef.h", 11, "STUV", 2, "abTUef.h", "between two of three spans"},
		{10, 8, -1, "ab..ef.h", 13, "STUV", 2, "ab.SefVh", "over one of three spans"},
		{10, 8, -1, "", 16, "WXYZ", 2, "......WX", "over the edge"},
		{10, 8, -1, "", 14, "WXYZ", 4, "....WXYZ", "up to the edge"},
		{10, 8, -1, "abc", 17, "WXYZ", 1, "abc....W", "over the edge, one byte"},
		{10, 8, -1, "abc", 18, "WXYZ", 0, "abc", "at the edge"},
		{10, 8, -1, "abc", 19, "WXYZ", 0, "abc", "behind the edge"},
		{10, 8, -1, "abc", last, "WXYZ", 0, "abc", "at 2^61"},
		{10, 8, -1, "abc", last, "", 0, "abc", "at 2^61, and no bytes"},
		{10, 8, -1, "abcdefgh", 17, "XY", 0, "abcdefgh", "full"},
		{10, 0, -1, "", 10, "XY", 0, "", "a Cap of 0"},
		{10, 3, -1, ".b", 7, "QRSTUVWXYZ", 2, "TbV", "over all"},
		{10, 8, -1, "abc", 11, "\x00\x00\x00", 1, "abc\x00", "bytes of 0"},
		{10, 8, -1, "\x00.\x00", 10, "XYZ", 1, "\x00Y\x00", "over bytes of 0, which are there too"},
		{10, 8, 14, "ab", 12, "YZ", 2, "abYZ", "up to End exactly"},
		{10, 8, 14, "ab", 14, "", 0, "ab", "no bytes at End"},
		{10, 8, 14, "ab", 5, "QRSTUVWXY", 2, "abXY", "from before Base up to End"},
		{10, 8, 14, "ab", 5, "QRS", 0, "ab", "before Base, with an End"},
		{10, 8, 14, "ab.d", 10, "WXYZ", 1, "abYd", "what is missing up to End"},
		{10, 8, 18, "ab", 16, "YZ", 2, "ab....YZ", "an End at the edge"},
		{10, 8, 20, "ab", 16, "WXYZ", 2, "ab....WX", "an End behind the edge"},
		{10, 8, 20, "ab", 18, "YZ", 0, "ab", "between the edge and End"},
		{10, 8, 10, "", 10, "", 0, "", "no bytes, and nothing is missing"},
		{10, 8, 10, "", 8, "YZ", 0, "", "before Base, and nothing is missing"},
		{0, 8, 0, "", 0, "", 0, "", "an End of 0"},
		{last - 3, 9, -1, "", last - 2, "XYZ", 2, ".XY", "over 2^61"},
		{last - 3, 9, -1, "a", last - 2, "XY", 2, "aXY", "up to 2^61"},
		{last - 3, 9, -1, "a", last, "XY", 0, "a", "at 2^61, which is the edge"},
		{last - 3, 2, -1, "a", last - 2, "XY", 1, "aX", "Cap allows less than 2^61"},
		{last, 9, -1, "", last, "XY", 0, "", "a Base of 2^61"},
		{last, 9, -1, "", last - 1, "XY", 0, "", "over a Base of 2^61"},
		{last - 3, 9, last, "a.c", last - 2, "XY", 1, "aXc", "an End of 2^61"},
		{last - 3, 9, math.MaxInt, "a", last - 1, "XYZ", 1, "a.X", "the greatest End"},
	} {
		w, n, e := weave.Put(made(c.base, c.limit, c.end, c.before), c.at, []byte(c.b))
		if n != c.n || e != api.OK || !equal(w, made(c.base, c.limit, c.end, c.want)) {
			t.Errorf("%s: %s %d %d", c.why, show(w), n, e)
		}
	}
}

// P6.2: a Put of no bytes, nil and empty.
func TestPutNothing(t *testing.T) {
	for _, w := range valid() {
		for _, b := range [][]byte{nil, {}} {
			for _, at := range numbers(w) {
				v, n, e := weave.Put(w, at, b)
				switch {
				case at < 0 || at > last:
					if n != 0 || e != api.ErrArg || !isZero(v) {
						t.Errorf("nothing at %d to %s: %s %d %d", at, show(w), show(v), n, e)
					}
				case w.End != -1 && at > w.End:
					if n != 0 || e != api.ErrOver || !isZero(v) {
						t.Errorf("nothing at %d to %s: %s %d %d", at, show(w), show(v), n, e)
					}
				default:
					if n != 0 || e != api.OK || !equal(v, w) {
						t.Errorf("nothing at %d to %s: %s %d %d", at, show(w), show(v), n, e)
					}
				}
			}
		}
	}
}

// P6.2: a position that is negative, or greater than 2^61.
func TestPutAtNoPosition(t *testing.T) {
	for _, w := range valid() {
		for _, at := range []int{math.MinInt, math.MinInt + 1, -api.Range, -last, -3, -1, last + 1, last + 2, api.Range, math.MaxInt - 3, math.MaxInt - 1, math.MaxInt} {
			for _, b := range [][]byte{nil, {}, []byte("x"), []byte("xyz"), stream(api.MaxCap + 9)} {
				if v, n, e := weave.Put(w, at, b); n != 0 || e != api.ErrArg || !isZero(v) {
					t.Errorf("%d bytes at %d to %s: %s %d %d", len(b), at, show(w), show(v), n, e)
				}
			}
			if v, e := weave.Shut(w, at); e != api.ErrArg || !isZero(v) {
				t.Errorf("Shut at %d of %s: %s %d", at, show(w), show(v), e)
			}
		}
	}
}

// P6.2: a Put beyond End.
func TestPutBeyondEnd(t *testing.T) {
	for _, c := range []struct {
		w  api.Weave
		at int
		b  string
	}{
		{made(10, 8, 14, "ab"), 12, "XYZ"}, {made(10, 8, 14, "ab"), 14, "X"}, {made(10, 8, 14, "ab"), 15, ""}, {made(10, 8, 14, "ab"), 15, "X"}, {made(10, 8, 14, "abcd"), 10, "VWXYZ"},
		{made(10, 8, 14, "abcd"), 7, "STUVWXYZ"}, {made(10, 8, 14, "ab"), 18, ""}, {made(10, 8, 14, "ab"), 99, "X"}, {made(10, 8, 14, "ab"), last, ""}, {made(10, 8, 14, "ab"), last, "X"},
		{made(10, 8, 10, ""), 10, "X"}, {made(10, 8, 10, ""), 9, "XY"}, {made(10, 8, 10, ""), 11, ""}, {made(10, 8, 20, ""), 19, "XY"}, {made(10, 8, 20, ""), 21, ""},
		{api.Weave{}, 0, "X"}, {api.Weave{}, 1, ""}, {api.Weave{Cap: 8}, 0, "X"}, {made(10, 0, 12, ""), 10, "XYZ"}, {made(last-3, 9, last, "a"), last - 1, "XY"}, {made(last-3, 9, last, "a"), last, "X"},
		{made(last-3, 9, last-1, "a"), last, ""}, {made(last-3, 9, last+1, "a"), last, "XY"},
	} {
		if w, n, e := weave.Put(c.w, c.at, []byte(c.b)); n != 0 || e != api.ErrOver || !isZero(w) {
			t.Errorf("%q at %d to %s: %s %d %d", c.b, c.at, show(c.w), show(w), n, e)
		}
	}
}

// P6.2: Puts to 1000 spans, which are at 2, 4 and so on up to 2000.
func TestPutManySpans(t *testing.T) {
	w := combed(0, 1000)
	if len(w.Got) != 1000 || len(w.B) != 2001 || w.Got[999].From != 2000 {
		t.Fatalf("%s", show(w))
	}
	for _, at := range []int{0, 2002, 2003, 65535, 5000} {
		if v, n, e := weave.Put(w, at, []byte("X")); n != 0 || e != api.ErrFull || !isZero(v) {
			t.Errorf("a span more at %d: %s %d %d", at, show(v), n, e)
		}
	}
	if v, n, e := weave.Put(w, 65535, []byte("XYZ")); n != 0 || e != api.ErrFull || !isZero(v) {
		t.Errorf("a span more over the edge: %s %d %d", show(v), n, e)
	}
	for _, c := range []struct {
		at, size, n, spans int
	}{
		{1, 1, 1, 1000}, {2001, 1, 1, 1000}, {3, 1, 1, 999}, {1999, 1, 1, 999}, {0, 2, 2, 1000}, {2, 1, 0, 1000}, {2, 3, 1, 999}, {0, 2001, 1001, 1}, {0, 3000, 2000, 1}, {2000, 5, 4, 1000},
		{65536, 4, 0, 1000}, {70000, 4, 0, 1000}, {9000, 0, 0, 1000}, {0, 0, 0, 1000}, {101, 5, 3, 997},
	} {
		v, n, e := weave.Put(w, c.at, bytes.Repeat([]byte("X"), c.size))
		if n != c.n || e != api.OK || len(v.Got) != c.spans || !weave.May(v) || bytes.Count(v.B, []byte("X")) != c.n || bytes.Count(v.B, []byte("a")) != 1000 {
			t.Errorf("%d bytes at %d: %s %d %d", c.size, c.at, show(v), n, e)
		}
	}
	if v, n, e := weave.Put(combed(0, 999), 2003, []byte("X")); n != 1 || e != api.OK || len(v.Got) != 1000 {
		t.Errorf("the span 1000: %s %d %d", show(v), n, e)
	}
	behind := combed(7, 1000)
	if v, n, e := weave.Put(behind, 5, []byte("XY")); n != 0 || e != api.OK || !equal(v, behind) {
		t.Errorf("before Base: %s %d %d", show(v), n, e)
	}
	if v, n, e := weave.Put(behind, 5, []byte("XYZ")); n != 0 || e != api.ErrFull || !isZero(v) {
		t.Errorf("over Base: %s %d %d", show(v), n, e)
	}
}

// P6.2, R2: where several errors apply, it is the one named first.
func TestOrderOfErrors(t *testing.T) {
	full := combed(0, 1000)
	full.End = 2010
	for _, c := range []struct {
		at int
		b  string
		e  api.Errno
	}{
		{2003, "X", api.ErrFull}, {2009, "X", api.ErrFull}, {2009, "XY", api.ErrOver}, {2011, "", api.ErrOver}, {2011, "X", api.ErrOver}, {last + 1, "X", api.ErrArg}, {-1, "X", api.ErrArg}, {last, "X", api.ErrOver},
	} {
		if v, n, e := weave.Put(full, c.at, []byte(c.b)); n != 0 || e != c.e || !isZero(v) {
			t.Errorf("%q at %d: %s %d %d", c.b, c.at, show(v), n, e)
		}
	}
	full.End = 2000
	if v, n, e := weave.Put(full, 2003, []byte("X")); n != 0 || e != api.ErrArg || !isZero(v) {
		t.Errorf("an End that is not valid: %s %d %d", show(v), n, e)
	}
}

// P6.2: Shut.
func TestShut(t *testing.T) {
	for _, c := range []struct {
		w   api.Weave
		at  int
		e   api.Errno
		why string
	}{
		{made(10, 8, -1, ""), 10, api.OK, "at Base"},
		{made(10, 8, -1, ""), 9, api.ErrOver, "before Base"},
		{made(10, 8, -1, ""), 0, api.ErrOver, "at 0, before Base"},
		{made(10, 8, -1, ""), 15, api.OK, "behind Base"},
		{made(10, 8, -1, ""), 18, api.OK, "at the edge"},
		{made(10, 8, -1, ""), 19, api.OK, "behind the edge"},
		{made(10, 8, -1, ""), last, api.OK, "at 2^61"},
		{made(10, 8, -1, ""), last + 1, api.ErrArg, "behind 2^61"},
		{made(10, 8, -1, ""), -1, api.ErrArg, "at -1"},
		{made(10, 8, -1, "ab.d"), 14, api.OK, "at the end of the last span"},
		{made(10, 8, -1, "ab.d"), 13, api.ErrOver, "before the end of the last span"},
		{made(10, 8, -1, "ab.d"), 12, api.ErrOver, "at the end of the first span"},
		{made(10, 8, -1, "ab.d"), 10, api.ErrOver, "at Base, before bytes"},
		{made(10, 8, -1, "ab.d"), 15, api.OK, "behind the last span"},
		{made(10, 8, 14, "ab.d"), 14, api.OK, "again, at the end of the last span"},
		{made(10, 8, 16, "ab.d"), 16, api.OK, "again"},
		{made(10, 8, 16, "ab.d"), 15, api.ErrOver, "again, elsewhere before"},
		{made(10, 8, 16, "ab.d"), 14, api.ErrOver, "again, elsewhere at the end of the last span"},
		{made(10, 8, 16, "ab.d"), 17, api.ErrOver, "again, elsewhere behind"},
		{made(10, 8, 16, "ab.d"), last, api.ErrOver, "again, elsewhere at 2^61"},
		{made(10, 8, 16, "ab.d"), -1, api.ErrArg, "again, at -1"},
		{made(10, 8, 10, ""), 10, api.OK, "again, and nothing is missing"},
		{made(10, 8, 10, ""), 11, api.ErrOver, "one behind, and nothing is missing"},
		{made(0, 8, -1, ""), 0, api.OK, "at 0"},
		{made(0, 8, -1, "a"), 0, api.ErrOver, "at 0, and a byte"},
		{made(0, 0, -1, ""), 5, api.OK, "a Cap of 0"},
		{api.Weave{}, 0, api.OK, "the zero value"},
		{api.Weave{}, 1, api.ErrOver, "the zero value, of which the end is known"},
		{made(last, 8, -1, ""), last, api.OK, "a Base of 2^61"},
		{made(last, 8, -1, ""), last - 1, api.ErrOver, "before a Base of 2^61"},
		{made(last, 8, -1, ""), last + 1, api.ErrArg, "behind a Base of 2^61"},
		{made(10, 8, last+1, ""), last + 1, api.ErrArg, "an End behind 2^61 again"},
		{made(10, 8, last+1, ""), last, api.ErrOver, "another one than an End behind 2^61"},
		{made(10, 8, -1, ""), math.MaxInt, api.ErrArg, "the greatest int"},
		{made(10, 8, -1, ""), math.MinInt, api.ErrArg, "the least int"},
	} {
		want := api.Weave{}
		if c.e == api.OK {
			want = c.w
			want.End = c.at
		}
		if w, e := weave.Shut(c.w, c.at); e != c.e || !equal(w, want) {
			t.Errorf("%s: %s %d", c.why, show(w), e)
		}
	}
}

// P6.3: Ready.
func TestReady(t *testing.T) {
	for _, c := range []struct {
		w    api.Weave
		want int
	}{
		{api.Weave{}, 0}, {made(10, 8, -1, ""), 0}, {made(10, 8, 10, ""), 0}, {made(10, 8, 12, ""), 0}, {made(10, 8, -1, ".b"), 0}, {made(10, 8, -1, "..c.e"), 0}, {made(10, 8, -1, "a"), 1},
		{made(10, 8, -1, "a.c"), 1}, {made(10, 8, -1, "abc.e"), 3}, {made(10, 8, -1, "abc"), 3}, {made(10, 8, 13, "abc"), 3}, {made(10, 8, 15, "abc"), 3}, {made(10, 8, -1, "abcdefgh"), 8},
		{made(10, 8, -1, "\x00\x00"), 2}, {made(0, 8, -1, "ab"), 2}, {made(0, 8, -1, "..cd"), 0}, {made(0, 8, -1, "abcd"), 4}, {made(last-3, 8, -1, "abc"), 3}, {made(last, 8, -1, ""), 0},
		{whole(0, api.MaxCap, -1, api.MaxCap), 65536}, {whole(last-api.MaxCap, api.MaxCap, -1, api.MaxCap), 65536}, {combed(0, 1000), 0},
	} {
		if n := weave.Ready(c.w); n != c.want {
			t.Errorf("%d bytes of %s are ready instead of %d", n, show(c.w), c.want)
		}
	}
	for why, w := range invalid() {
		if n := weave.Ready(w); n != 0 {
			t.Errorf("not valid, but %d bytes are ready: %s", n, why)
		}
	}
}

// P6.3: Read, on results that were worked out by hand.
func TestRead(t *testing.T) {
	for _, c := range []struct {
		w    api.Weave
		n    int
		b    string
		want api.Weave
		why  string
	}{
		{made(10, 8, -1, "abcd"), 0, "", made(10, 8, -1, "abcd"), "0 bytes"},
		{made(10, 8, -1, "abcd"), 1, "a", made(11, 8, -1, "bcd"), "one byte"},
		{made(10, 8, -1, "abcd"), 3, "abc", made(13, 8, -1, "d"), "fewer than are ready"},
		{made(10, 8, -1, "abcd"), 4, "abcd", made(14, 8, -1, ""), "exactly those that are ready"},
		{made(10, 8, -1, "abcd"), 5, "abcd", made(14, 8, -1, ""), "one more than are ready"},
		{made(10, 8, -1, "abcd"), math.MaxInt, "abcd", made(14, 8, -1, ""), "as many as there can be"},
		{made(10, 8, -1, ""), 0, "", made(10, 8, -1, ""), "0 bytes of none"},
		{made(10, 8, -1, ""), 5, "", made(10, 8, -1, ""), "none is there"},
		{made(10, 8, -1, ".b"), 5, "", made(10, 8, -1, ".b"), "a gap at Base"},
		{made(10, 8, -1, "ab.d"), 1, "a", made(11, 8, -1, "b.d"), "fewer than up to a gap"},
		{made(10, 8, -1, "ab.d"), 2, "ab", made(12, 8, -1, ".d"), "up to a gap"},
		{made(10, 8, -1, "ab.d"), 3, "ab", made(12, 8, -1, ".d"), "over a gap"},
		{made(10, 8, -1, "ab.d"), 99, "ab", made(12, 8, -1, ".d"), "far over a gap"},
		{made(10, 8, -1, "ab..e.gh"), 2, "ab", made(12, 8, -1, "..e.gh"), "several behind gaps"},
		{made(10, 8, 14, "abcd"), 4, "abcd", made(14, 8, 14, ""), "up to End"},
		{made(10, 8, 14, "abcd"), 9, "abcd", made(14, 8, 14, ""), "over End"},
		{made(10, 8, 16, "abcd"), 9, "abcd", made(14, 8, 16, ""), "all before End"},
		{made(10, 8, 10, ""), 9, "", made(10, 8, 10, ""), "after the end"},
		{made(10, 8, -1, "\x00b\x00"), 1, "\x00", made(11, 8, -1, "b\x00"), "a byte of 0"},
		{made(last-3, 8, -1, "abc"), 2, "ab", made(last-1, 8, -1, "c"), "near 2^61"},
		{made(last-3, 8, -1, "abc"), 3, "abc", made(last, 8, -1, ""), "up to 2^61"},
		{api.Weave{}, 3, "", api.Weave{}, "the zero value"},
	} {
		if w, b, e := weave.Read(c.w, c.n); e != api.OK || string(b) != c.b || !equal(w, c.want) {
			t.Errorf("%s: %q %s %d", c.why, b, show(w), e)
		}
	}
	for _, w := range valid() {
		for _, n := range []int{-1, -2, -api.MaxCap, -last, math.MinInt} {
			if v, b, e := weave.Read(w, n); e != api.ErrArg || len(b) != 0 || !isZero(v) {
				t.Errorf("%d bytes of %s: %q %s %d", n, show(w), b, show(v), e)
			}
		}
	}
}

// P6.3: Read of many bytes.
func TestReadMany(t *testing.T) {
	all := stream(api.MaxCap)
	for _, n := range []int{1, 1460, 65535, 65536, 65537} {
		left := max(api.MaxCap-n, 0)
		w, b, e := weave.Read(api.Weave{Base: 5, B: all, Got: list(5, 5+api.MaxCap), Cap: api.MaxCap, End: -1}, n)
		want := api.Weave{Base: 5 + api.MaxCap - left, B: all[api.MaxCap-left:], Cap: api.MaxCap, End: -1}
		if left > 0 {
			want.Got = list(want.Base, want.Base+left)
		}
		if e != api.OK || !bytes.Equal(b, all[:api.MaxCap-left]) || !equal(w, want) {
			t.Errorf("%d bytes: %d %s %d", n, len(b), show(w), e)
		}
	}
}

// P6.3: Over.
func TestOver(t *testing.T) {
	for _, c := range []struct {
		w    api.Weave
		want bool
	}{
		{api.Weave{}, true}, {made(0, 8, 0, ""), true}, {made(0, 8, -1, ""), false}, {made(10, 8, -1, ""), false}, {made(10, 8, 10, ""), true}, {made(10, 8, 11, ""), false}, {made(10, 8, 11, "a"), false},
		{made(10, 8, 14, "abcd"), false}, {made(10, 8, -1, "abcd"), false}, {made(14, 8, 14, ""), true}, {made(10, 0, 10, ""), true}, {made(last, 8, last, ""), true}, {made(last, 8, last+1, ""), false}, {made(last, 8, -1, ""), false},
	} {
		if weave.Over(c.w) != c.want {
			t.Errorf("Over is not %v: %s", c.want, show(c.w))
		}
	}
	w := made(10, 8, 13, "abc")
	for _, want := range []bool{false, false, false, true, true} {
		if weave.Over(w) != want {
			t.Errorf("Over is not %v: %s", want, show(w))
		}
		w, _, _ = weave.Read(w, 1)
	}
	for why, w := range invalid() {
		if weave.Over(w) {
			t.Errorf("not valid, but over: %s", why)
		}
	}
	for _, w := range []api.Weave{{Base: -1, Cap: 9, End: -1}, {Base: last + 1, Cap: 9, End: last + 1}, {Cap: -1}, {Cap: api.MaxCap + 1}, {Base: 5, Cap: 9, B: []byte{1}, End: 5}, made(5, 9, 5, "a")} {
		if weave.Over(w) {
			t.Errorf("not valid, but over: %s", show(w))
		}
	}
}

// P6.2, P6.3, R2: a receive buffer that is not valid is ErrArg, whatever else applies.
func TestNotValid(t *testing.T) {
	for why, w := range invalid() {
		for _, at := range numbers(w) {
			for _, b := range [][]byte{nil, {}, []byte("xyz")} {
				if v, n, e := weave.Put(w, at, b); n != 0 || e != api.ErrArg || !isZero(v) {
					t.Errorf("%s: Put at %d returns %s %d %d", why, at, show(v), n, e)
				}
			}
			if v, e := weave.Shut(w, at); e != api.ErrArg || !isZero(v) {
				t.Errorf("%s: Shut at %d returns %s %d", why, at, show(v), e)
			}
			if v, b, e := weave.Read(w, at); len(b) != 0 || e != api.ErrArg || !isZero(v) {
				t.Errorf("%s: Read of %d returns %s %q %d", why, at, show(v), b, e)
			}
		}
	}
}

// small returns all valid receive buffers with a small Cap at a few places.
func small() []api.Weave {
	var l []api.Weave
	for _, base := range []int{0, 1, 7, last - 5, last - 3, last - 1, last} {
		for limit := range 5 {
			room := min(limit, last-base)
			for set := range 1 << room {
				picture := strings.Builder{}
				for i := 0; set>>i != 0; i++ {
					picture.WriteByte(".abcd"[(i+1)*(set>>i&1)])
				}
				for _, end := range []int{-1, base + picture.Len(), base + picture.Len() + 1, base + limit + 1, math.MaxInt} {
					l = append(l, made(base, limit, end, picture.String()))
				}
			}
		}
	}
	return l
}

// held returns the bytes of a receive buffer by their positions.
func held(w api.Weave) map[int]byte {
	m := map[int]byte{}
	for _, s := range w.Got {
		for p := s.From; p < s.Upto; p++ {
			m[p] = w.B[p-w.Base]
		}
	}
	return m
}

// drawn returns the receive buffer like w with the bytes m.
func drawn(w api.Weave, base int, m map[int]byte) api.Weave {
	behind := base
	for p := range m {
		behind = max(behind, p+1)
	}
	picture := bytes.Repeat([]byte("."), behind-base)
	for p, c := range m {
		picture[p-base] = c
	}
	return made(base, w.Cap, w.End, string(picture))
}

// P6.2: Put to all small receive buffers, against the definition byte by byte.
func TestPutSmall(t *testing.T) {
	for _, w := range small() {
		if !weave.May(w) {
			t.Fatalf("valid: %s", show(w))
		}
		for at := w.Base - 3; at <= w.Base+w.Cap+2; at++ {
			for size := range 8 {
				b := []byte("STUVWXYZ"[:size])
				v, n, e := weave.Put(w, at, b)
				wrong := api.OK
				if at < 0 || at > last {
					wrong = api.ErrArg
				} else if w.End != -1 && at+size > w.End {
					wrong = api.ErrOver
				}
				if wrong != api.OK {
					if n != 0 || e != wrong || !isZero(v) {
						t.Fatalf("%q at %d to %s: %s %d %d", b, at, show(w), show(v), n, e)
					}
					continue
				}
				m, count := held(w), 0
				for i, c := range b {
					p := at + i
					if _, there := m[p]; !there && w.Base <= p && p < w.Base+w.Cap && p < last {
						m[p] = c
						count++
					}
				}
				if n != count || e != api.OK || !equal(v, drawn(w, w.Base, m)) {
					t.Fatalf("%q at %d to %s: %s %d %d", b, at, show(w), show(v), n, e)
				}
			}
		}
	}
}

// P6.3: Ready, Read and Over of all small receive buffers, against the definition byte by byte.
func TestReadSmall(t *testing.T) {
	for _, w := range small() {
		for n := range 7 {
			m, base := held(w), w.Base
			var want []byte
			for len(want) < n {
				c, there := m[base]
				if !there {
					break
				}
				want = append(want, c)
				delete(m, base)
				base++
			}
			v, b, e := weave.Read(w, n)
			if e != api.OK || !bytes.Equal(b, want) || !equal(v, drawn(w, base, m)) || !weave.May(v) {
				t.Fatalf("%d of %s: %q %s %d", n, show(w), b, show(v), e)
			}
			if weave.Over(v) != (base == w.End) {
				t.Fatalf("%d of %s: over is %v", n, show(w), weave.Over(v))
			}
			if n == 6 && weave.Ready(w) != len(want) {
				t.Fatalf("%d of %s are ready", weave.Ready(w), show(w))
			}
		}
	}
}

// P6.2: Shut of all small receive buffers.
func TestShutSmall(t *testing.T) {
	for _, w := range small() {
		for _, at := range numbers(w) {
			wrong := api.OK
			want := w
			want.End = at
			if at < 0 || at > last {
				wrong, want = api.ErrArg, api.Weave{}
			} else if w.End != -1 && w.End != at || at < w.Base+len(w.B) {
				wrong, want = api.ErrOver, api.Weave{}
			}
			if v, e := weave.Shut(w, at); e != wrong || !equal(v, want) {
				t.Fatalf("%d of %s: %s %d", at, show(w), show(v), e)
			}
		}
	}
}

// dice returns a function that returns numbers below n in no order that is easily seen, the same ones each time.
func dice(seed uint64) func(n int) int {
	return func(n int) int {
		seed = seed*6364136223846793005 + 1442695040888963407
		return int(seed>>33) % n
	}
}

// P6.4: a stream comes in pieces that overlap, out of order and some of them twice, is read once and in order, and the edge never decreases.
func TestStream(t *testing.T) {
	all := stream(700)
	for _, limit := range []int{1, 2, 7, 64, 300, 1000} {
		for _, base := range []int{0, 12345, last - len(all)} {
			throw := dice(uint64(limit))
			w, out, edge := api.Weave{Base: base, Cap: limit, End: -1}, []byte(nil), 0
			for step := 0; !weave.Over(w); step++ {
				if step > 1000000 {
					t.Fatalf("it never ends: %s", show(w))
				}
				// Some pieces begin before Base, some end behind the edge.
				from := min(max(len(out)-4+throw(limit+6), 0), len(all))
				upto := min(from+throw(12), len(all))
				before := held(w)
				v, n, e := weave.Put(w, base+from, all[from:upto])
				if e != api.OK || len(held(v)) != len(before)+n {
					t.Fatalf("%d to %d: %s %d %d", from, upto, show(v), n, e)
				}
				if step == 40 {
					v, e = weave.Shut(v, base+len(all))
					if e != api.OK {
						t.Fatalf("Shut: %d", e)
					}
				}
				if weave.Edge(v) < edge {
					t.Fatalf("the edge %d is now %d", edge, weave.Edge(v))
				}
				edge = weave.Edge(v)
				if step%3 == 0 {
					var b []byte
					v, b, e = weave.Read(v, throw(9))
					if e != api.OK || v.Base != base+len(out)+len(b) {
						t.Fatalf("Read: %s %d", show(v), e)
					}
					out = append(out, b...)
				}
				if weave.Edge(v) < edge || weave.Edge(v) != min(v.Base+limit, last) || !weave.May(v) {
					t.Fatalf("the edge %d is now %d", edge, weave.Edge(v))
				}
				edge = weave.Edge(v)
				w = v
			}
			if !bytes.Equal(out, all) || len(w.B) != 0 || len(w.Got) != 0 {
				t.Fatalf("Cap %d, Base %d: %d bytes were read, %s is left", limit, base, len(out), show(w))
			}
		}
	}
}

// P6.4: of different bytes for one position the first ones that were stored are read.
func TestFirstBytesStay(t *testing.T) {
	for seed := range 20 {
		throw := dice(uint64(seed))
		w, first, read := api.Weave{Base: 50, Cap: 30, End: -1}, map[int]byte{}, 50
		for range 400 {
			at, b := read-5+throw(40), make([]byte, throw(8))
			for i := range b {
				b[i] = byte('A' + throw(26))
				if _, there := first[at+i]; !there && at+i >= read && at+i < read+30 {
					first[at+i] = b[i]
				}
			}
			var e api.Errno
			w, _, e = weave.Put(w, at, b)
			if e != api.OK {
				t.Fatalf("%q at %d: %d", b, at, e)
			}
			w, b, e = weave.Read(w, throw(4))
			if e != api.OK {
				t.Fatalf("Read: %d", e)
			}
			for _, c := range b {
				if c != first[read] {
					t.Fatalf("%c at %d instead of %c", c, read, first[read])
				}
				read++
			}
			left := maps.Clone(first)
			maps.DeleteFunc(left, func(p int, _ byte) bool { return p < read })
			if !equal(w, drawn(w, read, left)) {
				t.Fatalf("%s instead of %s", show(w), show(drawn(w, read, left)))
			}
		}
	}
}

// spoil overwrites the lists of a receive buffer, and the memory behind them that belongs to the same slices.
func spoil(w api.Weave) {
	clear(w.B[:cap(w.B)])
	clear(w.Got[:cap(w.Got)])
}

// within returns the same receive buffer with other bytes and spans before and behind its own ones in memory, and all of that memory.
func within(w api.Weave) (v api.Weave, memory api.Weave) {
	memory.B = slices.Concat([]byte("<<<"), w.B, []byte(">>>>>>>>>>>>"))
	memory.Got = slices.Concat(list(1, 2), w.Got, list(90, 91, 92, 93, 94, 95, 96, 97))
	v = w
	v.B = memory.B[3 : 3+len(w.B)]
	v.Got = memory.Got[1 : 1+len(w.Got)]
	return v, memory
}

// R3: arguments are not modified, nor the memory around them, and nothing that a caller does to a result changes them.
func TestArgumentsStay(t *testing.T) {
	for _, own := range []string{"", "abc", "..c", "ab.d.f", "a.c.e.gh"} {
		w, memory := within(made(10, 8, -1, own))
		memoryOfBytes := []byte("<<<UVWXYZ>>>>>>")
		b := memoryOfBytes[3:9]
		before, _ := within(made(10, 8, -1, own))
		whole := api.Weave{B: slices.Clone(memory.B), Got: slices.Clone(memory.Got)}
		expectSame := func(call string) {
			t.Helper()
			if !equal(w, before) || !equal(memory, whole) || string(memoryOfBytes) != "<<<UVWXYZ>>>>>>" {
				t.Fatalf("%s modified %s, %q or %q", call, show(w), memory.B, memoryOfBytes)
			}
		}
		for at := 5; at < 22; at++ {
			for size := range len(b) + 1 {
				v, _, _ := weave.Put(w, at, b[:size])
				expectSame("Put")
				spoil(v)
				expectSame("a change of the result of Put")
			}
			v, _ := weave.Shut(w, at)
			expectSame("Shut")
			spoil(v)
			expectSame("a change of the result of Shut")
		}
		for n := range 10 {
			v, out, _ := weave.Read(w, n)
			expectSame("Read")
			spoil(v)
			clear(out[:cap(out)])
			expectSame("a change of the result of Read")
		}
		weave.May(w)
		weave.Ready(w)
		weave.Over(w)
		weave.Edge(w)
		expectSame("May, Ready, Over or Edge")
	}
}

// R3: nothing that a caller does to the arguments changes a result.
func TestResultsStay(t *testing.T) {
	for _, own := range []string{"", "abc", "..c", "ab.d.f", "a.c.e.gh"} {
		for at := 5; at < 22; at++ {
			for n := range 5 {
				call := func() (l []api.Weave, out []byte, spoilAll func()) {
					w, memory := within(made(10, 8, -1, own))
					b := []byte("WXYZ")[:n]
					put, _, _ := weave.Put(w, at, b)
					shut, _ := weave.Shut(w, at)
					read, out, _ := weave.Read(w, n)
					return []api.Weave{put, shut, read}, out, func() {
						spoil(memory)
						clear(b[:cap(b)])
					}
				}
				l, out, spoilAll := call()
				want, wantOut, _ := call()
				spoilAll()
				if !slices.EqualFunc(l, want, equal) || !bytes.Equal(out, wantOut) {
					t.Fatalf("%q, %d and %d: %v instead of %v", own, at, n, l, want)
				}
			}
		}
	}
}

// R3: two results do not share memory, even those of one call.
func TestResultsApart(t *testing.T) {
	w, b, _ := weave.Read(made(10, 8, -1, "abcd.f"), 2)
	clear(b[:cap(b)])
	if !equal(w, made(12, 8, -1, "cd.f")) {
		t.Errorf("%s", show(w))
	}
	w, b, _ = weave.Read(made(10, 8, -1, "abcd.f"), 2)
	spoil(w)
	if string(b) != "ab" {
		t.Errorf("%q", b)
	}
	w = made(10, 8, -1, "ab.d")
	u, _, _ := weave.Put(w, 12, []byte("X"))
	v, _, _ := weave.Put(u, 15, []byte("Y"))
	s, _ := weave.Shut(v, 20)
	r, _, _ := weave.Read(s, 0)
	p, _, _ := weave.Put(r, 10, []byte("Z"))
	for _, x := range []api.Weave{u, v, s, r} {
		spoil(x)
	}
	if !equal(w, made(10, 8, -1, "ab.d")) || !equal(p, made(10, 8, 20, "abXd.Y")) {
		t.Errorf("%s %s", show(w), show(p))
	}
}

// R5: calls again return the same.
func TestCallsAgain(t *testing.T) {
	w := made(10, 8, -1, "ab.d")
	for range 3 {
		p, n, _ := weave.Put(w, 12, []byte("XYZ"))
		s, _ := weave.Shut(w, 15)
		r, b, _ := weave.Read(w, 9)
		if n != 2 || !equal(p, made(10, 8, -1, "abXdZ")) || !equal(s, made(10, 8, 15, "ab.d")) || !equal(r, made(12, 8, -1, ".d")) || string(b) != "ab" {
			t.Errorf("%s %d %s %s %q", show(p), n, show(s), show(r), b)
		}
		if weave.Ready(w) != 2 || weave.Edge(w) != 18 || weave.Over(w) || !weave.May(w) {
			t.Errorf("%s", show(w))
		}
	}
}
