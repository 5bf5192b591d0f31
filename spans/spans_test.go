package spans_test

import (
	"math"
	"slices"
	"testing"

	"fourinhand/api"
	"fourinhand/spans"
)

// list returns the spans of which the ends are given: From and Upto of the first one, of the second one, and so on.
func list(ends ...int) []api.Span {
	var l []api.Span
	for i := 0; i < len(ends); i += 2 {
		l = append(l, api.Span{From: ends[i], Upto: ends[i+1]})
	}
	return l
}

// many returns n spans of three numbers each, with a number between every two: 1 to 4, 5 to 8, and so on.
func many(n int) []api.Span {
	l := make([]api.Span, n)
	for i := range l {
		l[i] = api.Span{From: 4*i + 1, Upto: 4*i + 4}
	}
	return l
}

const top = api.Range

// invalid lists, and why they are that.
func invalid() map[string][]api.Span {
	return map[string][]api.Span{
		"spans that touch":                         list(1, 3, 3, 4),
		"spans that touch, behind others":          list(1, 3, 5, 7, 9, 12, 12, 13),
		"spans that touch at 0":                    list(0, 1, 1, 2),
		"spans that overlap by one number":         list(1, 4, 3, 6),
		"spans that overlap":                       list(1, 10, 3, 14),
		"a span within the one before it":          list(1, 10, 3, 4),
		"a span within the one behind it":          list(3, 4, 1, 10),
		"the same span twice":                      list(1, 3, 1, 3),
		"the wrong order":                          list(5, 6, 1, 2),
		"the wrong order of the last ones":         list(1, 2, 7, 8, 4, 5),
		"the wrong order of the first ones":        list(4, 5, 1, 2, 7, 8),
		"an empty span":                            list(1, 1),
		"an empty span at 0":                       list(0, 0),
		"an empty span at 2^62":                    list(top, top),
		"an empty span between others":             list(1, 2, 4, 4, 6, 7),
		"an empty span behind others":              list(1, 2, 4, 5, 7, 7),
		"a span that ends before it begins":        list(3, 1),
		"a span that ends before it, among others": list(1, 2, 6, 5, 8, 9),
		"a negative From":                          list(-1, 1),
		"a negative From, and others":              list(-1, 1, 3, 4),
		"two negative ends":                        list(-5, -3),
		"negative ends, and others":                list(-5, -3, 1, 2),
		"the least From":                           list(math.MinInt, 1),
		"an Upto greater than 2^62":                list(0, top+1),
		"both ends greater than 2^62":              list(top+1, top+3),
		"an Upto greater than 2^62, behind others": list(1, 2, 4, top+1),
		"the greatest Upto":                        list(0, math.MaxInt),
		"all integers":                             list(math.MinInt, math.MaxInt),
		"1001 elements":                            many(1001),
		"1001 equal elements":                      slices.Repeat(list(1, 2), 1001),
		"5000 elements":                            many(5000),
		"the last one of 1000 is empty":            append(many(999), api.Span{From: 9000, Upto: 9000}),
		"the last one of 1000 touches":             append(many(999), api.Span{From: 4 * 999, Upto: 9000}),
	}
}

// valid lists.
func valid() [][]api.Span {
	return [][]api.Span{
		nil, {}, list(0, 1), list(0, top), list(top-1, top), list(1, 3, 4, 6), list(1, 3, 5, 7, 9, 12), list(0, 1, 2, 3, 4, 5),
		list(0, 1, top-1, top), list(0, top-2, top-1, top), many(1), many(999), many(1000),
	}
}

// invalidSpans are spans that are not valid.
func invalidSpans() []api.Span {
	return list(0, 0, 5, 5, 6, 5, 3, 1, -1, 1, -1, 0, -5, -3, 0, -1, 0, top+1, top, top, top, top+1, top-1, top+1, top+1, top+2,
		0, math.MaxInt, math.MinInt, 1, math.MinInt, math.MaxInt, math.MaxInt, math.MinInt, math.MinInt, math.MinInt, math.MaxInt, math.MaxInt)
}

// P4.1: May.
func TestMay(t *testing.T) {
	for _, l := range valid() {
		if !spans.May(l) {
			t.Errorf("%v is valid", l)
		}
	}
	for why, l := range invalid() {
		if spans.May(l) {
			t.Errorf("not valid: %s", why)
		}
	}
	for _, s := range invalidSpans() {
		if spans.May([]api.Span{s}) {
			t.Errorf("%v is not valid", s)
		}
	}
}

// P4.1: Add and Cut, on results that were worked out by hand.
func TestAddAndCut(t *testing.T) {
	three := list(1, 3, 5, 7, 9, 12)
	for _, c := range []struct {
		l        []api.Span
		s        api.Span
		add, cut []api.Span
		why      string
	}{
		{list(1, 3, 5, 7), api.Span{From: 3, Upto: 5}, list(1, 7), list(1, 3, 5, 7), "the document's example"},
		{list(1, 7), api.Span{From: 2, Upto: 4}, list(1, 7), list(1, 2, 4, 7), "the document's example, cut in two"},
		{nil, api.Span{From: 4, Upto: 6}, list(4, 6), nil, "no spans"},
		{[]api.Span{}, api.Span{From: 4, Upto: 6}, list(4, 6), nil, "no spans, in an empty list"},
		{nil, api.Span{From: 0, Upto: top}, list(0, top), nil, "all numbers"},
		{nil, api.Span{From: top - 1, Upto: top}, list(top-1, top), nil, "the greatest number"},
		{three, api.Span{From: 3, Upto: 5}, list(1, 7, 9, 12), three, "touches two"},
		{three, api.Span{From: 7, Upto: 9}, list(1, 3, 5, 12), three, "touches the last two"},
		{three, api.Span{From: 7, Upto: 8}, list(1, 3, 5, 8, 9, 12), three, "touches the one before it"},
		{three, api.Span{From: 4, Upto: 5}, list(1, 3, 4, 7, 9, 12), three, "touches the one behind it"},
		{three, api.Span{From: 0, Upto: 1}, list(0, 3, 5, 7, 9, 12), three, "touches the first one"},
		{three, api.Span{From: 12, Upto: 13}, list(1, 3, 5, 7, 9, 13), three, "touches the last one"},
		{list(1, 3, 6, 8), api.Span{From: 4, Upto: 5}, list(1, 3, 4, 5, 6, 8), list(1, 3, 6, 8), "between two, touches neither"},
		{list(2, 3), api.Span{From: 0, Upto: 1}, list(0, 1, 2, 3), list(2, 3), "before all"},
		{three, api.Span{From: 13, Upto: 14}, list(1, 3, 5, 7, 9, 12, 13, 14), three, "behind all"},
		{three, api.Span{From: 0, Upto: 20}, list(0, 20), nil, "contains all, and more"},
		{three, api.Span{From: 1, Upto: 12}, list(1, 12), nil, "contains all"},
		{three, api.Span{From: 2, Upto: 10}, list(1, 12), list(1, 2, 10, 12), "overlaps three"},
		{three, api.Span{From: 2, Upto: 6}, list(1, 7, 9, 12), list(1, 2, 6, 7, 9, 12), "overlaps two"},
		{three, api.Span{From: 6, Upto: 10}, list(1, 3, 5, 12), list(1, 3, 5, 6, 10, 12), "overlaps the last two"},
		{three, api.Span{From: 3, Upto: 6}, list(1, 7, 9, 12), list(1, 3, 6, 7, 9, 12), "touches one and overlaps one"},
		{three, api.Span{From: 4, Upto: 8}, list(1, 3, 4, 8, 9, 12), list(1, 3, 9, 12), "contains one"},
		{three, api.Span{From: 3, Upto: 9}, list(1, 12), list(1, 3, 9, 12), "contains one and touches two"},
		{three, api.Span{From: 10, Upto: 11}, three, list(1, 3, 5, 7, 9, 10, 11, 12), "lies within one"},
		{three, api.Span{From: 9, Upto: 10}, three, list(1, 3, 5, 7, 10, 12), "begins one"},
		{three, api.Span{From: 11, Upto: 12}, three, list(1, 3, 5, 7, 9, 11), "ends one"},
		{three, api.Span{From: 5, Upto: 7}, three, list(1, 3, 9, 12), "is one"},
		{three, api.Span{From: 1, Upto: 3}, three, list(5, 7, 9, 12), "is the first one"},
		{three, api.Span{From: 9, Upto: 12}, three, list(1, 3, 5, 7), "is the last one"},
		{three, api.Span{From: 0, Upto: 2}, list(0, 3, 5, 7, 9, 12), list(2, 3, 5, 7, 9, 12), "lengthens the first one downwards"},
		{three, api.Span{From: 11, Upto: 20}, list(1, 3, 5, 7, 9, 20), list(1, 3, 5, 7, 9, 11), "lengthens the last one upwards"},
		{list(4, 6), api.Span{From: 4, Upto: 6}, list(4, 6), nil, "is the only one"},
		{list(0, top), api.Span{From: 0, Upto: top}, list(0, top), nil, "all numbers twice"},
		{list(0, top), api.Span{From: 5, Upto: 6}, list(0, top), list(0, 5, 6, top), "one number of all"},
		{list(0, top), api.Span{From: 0, Upto: 1}, list(0, top), list(1, top), "the smallest number of all"},
		{list(0, top), api.Span{From: top - 1, Upto: top}, list(0, top), list(0, top-1), "the greatest number of all"},
		{list(0, 5, 6, top), api.Span{From: 5, Upto: 6}, list(0, top), list(0, 5, 6, top), "the only number that is missing"},
	} {
		if l, e := spans.Add(c.l, c.s); e != api.OK || !slices.Equal(l, c.add) {
			t.Errorf("%s: Add returns %v %d instead of %v", c.why, l, e, c.add)
		}
		if l, e := spans.Cut(c.l, c.s); e != api.OK || !slices.Equal(l, c.cut) {
			t.Errorf("%s: Cut returns %v %d instead of %v", c.why, l, e, c.cut)
		}
	}
}

// expectError expects that Add and Cut return this error and nothing else.
func expectError(t *testing.T, why string, l []api.Span, s api.Span, want api.Errno) {
	t.Helper()
	if r, e := spans.Add(l, s); e != want || r != nil {
		t.Errorf("%s: Add returns %d spans and error %d instead of %d", why, len(r), e, want)
	}
	if r, e := spans.Cut(l, s); e != want || r != nil {
		t.Errorf("%s: Cut returns %d spans and error %d instead of %d", why, len(r), e, want)
	}
}

// P4.1: ErrArg if the list or the span is not valid, also where the result would be a valid list.
func TestNotValid(t *testing.T) {
	for why, l := range invalid() {
		for _, s := range list(0, 1, 2, 4, 1, 20, 100, 101, 0, top, top-1, top, 9000, 9001) {
			expectError(t, why, l, s, api.ErrArg)
		}
		for _, s := range invalidSpans() {
			expectError(t, why+", and so is the span", l, s, api.ErrArg)
		}
	}
	for _, l := range valid() {
		for _, s := range invalidSpans() {
			expectError(t, "a span that is not valid", l, s, api.ErrArg)
		}
	}
}

// expectLength expects that a result has n elements, is valid and has so many numbers.
func expectLength(t *testing.T, why string, l []api.Span, e api.Errno, n, size int) {
	t.Helper()
	if e != api.OK || len(l) != n || !spans.May(l) || spans.Size(l) != size {
		t.Errorf("%s: %d spans with %d numbers, error %d, instead of %d with %d", why, len(l), spans.Size(l), e, n, size)
	}
}

// P4.1: ErrFull if Add would yield more than 1000 elements.
func TestAddFull(t *testing.T) {
	full := many(1000)
	for why, s := range map[string]api.Span{
		"a number behind all":     {From: 4001, Upto: 4002},
		"a number far behind all": {From: top - 1, Upto: top},
		"all numbers behind them": {From: 4001, Upto: top},
	} {
		if l, e := spans.Add(full, s); e != api.ErrFull || l != nil {
			t.Errorf("%s: %d spans and error %d", why, len(l), e)
		}
	}
	apart := make([]api.Span, 1000) // 2 to 3, 6 to 7, and so on: there is room before and between
	for i := range apart {
		apart[i] = api.Span{From: 4*i + 2, Upto: 4*i + 3}
	}
	for _, s := range list(0, 1, 4, 5, 1996, 1997, 4000, 4001) {
		if l, e := spans.Add(apart, s); e != api.ErrFull || l != nil {
			t.Errorf("%v to 1000 others: %d spans and error %d", s, len(l), e)
		}
	}
	l, e := spans.Add(full, api.Span{From: 4, Upto: 5})
	expectLength(t, "one that joins two of 1000", l, e, 999, 3001)
	l, e = spans.Add(full, api.Span{From: 0, Upto: 1})
	expectLength(t, "one that touches the first of 1000", l, e, 1000, 3001)
	l, e = spans.Add(full, api.Span{From: 4000, Upto: 4001})
	expectLength(t, "one that touches the last of 1000", l, e, 1000, 3001)
	l, e = spans.Add(full, api.Span{From: 2, Upto: 3})
	expectLength(t, "one that lies within one of 1000", l, e, 1000, 3000)
	l, e = spans.Add(full, api.Span{From: 0, Upto: 5000})
	expectLength(t, "one that contains 1000", l, e, 1, 5000)
	l, e = spans.Add(many(999), api.Span{From: 4001, Upto: 4002})
	expectLength(t, "one more than 999", l, e, 1000, 2998)
}

// P4.1: ErrFull if Cut would yield more than 1000 elements.
func TestCutFull(t *testing.T) {
	full := many(1000)
	for _, s := range list(2, 3, 1998, 1999, 3998, 3999) {
		if l, e := spans.Cut(full, s); e != api.ErrFull || l != nil {
			t.Errorf("%v out of one of 1000: %d spans and error %d", s, len(l), e)
		}
	}
	l, e := spans.Cut(full, api.Span{From: 1, Upto: 2})
	expectLength(t, "the begin of one of 1000", l, e, 1000, 2999)
	l, e = spans.Cut(full, api.Span{From: 3, Upto: 4})
	expectLength(t, "the end of one of 1000", l, e, 1000, 2999)
	l, e = spans.Cut(full, api.Span{From: 1, Upto: 4})
	expectLength(t, "one of 1000", l, e, 999, 2997)
	l, e = spans.Cut(full, api.Span{From: 4, Upto: 5})
	expectLength(t, "what is between two of 1000", l, e, 1000, 3000)
	l, e = spans.Cut(full, api.Span{From: 2, Upto: 7})
	expectLength(t, "the end of one and the begin of another one of 1000", l, e, 1000, 2996)
	l, e = spans.Cut(full, api.Span{From: 0, Upto: top})
	expectLength(t, "all of 1000", l, e, 0, 0)
	l, e = spans.Cut(many(999), api.Span{From: 2, Upto: 3})
	expectLength(t, "one of 999 in two", l, e, 1000, 2996)
}

// P4.2: Has.
func TestHas(t *testing.T) {
	three := list(1, 3, 5, 7, 9, 12)
	for _, s := range list(1, 3, 1, 2, 2, 3, 5, 7, 6, 7, 9, 12, 10, 11, 9, 10, 11, 12) {
		if !spans.Has(three, s) {
			t.Errorf("%v contains %v", three, s)
		}
	}
	for _, s := range list(0, 1, 0, 2, 0, 3, 2, 4, 3, 4, 3, 5, 4, 5, 4, 6, 2, 6, 1, 7, 1, 12, 5, 8, 7, 8, 7, 9, 8, 10, 11, 13, 12, 13, 0, 20, 50, 60, 0, top, top-1, top) {
		if spans.Has(three, s) {
			t.Errorf("%v does not contain %v", three, s)
		}
	}
	if spans.Has(nil, api.Span{From: 0, Upto: 1}) || spans.Has([]api.Span{}, api.Span{From: 0, Upto: 1}) {
		t.Errorf("no spans contain a number")
	}
	all := list(0, top)
	for _, s := range list(0, 1, 0, top, top-1, top, 5, 1000) {
		if !spans.Has(all, s) {
			t.Errorf("all numbers do not contain %v", s)
		}
	}
	for _, s := range invalidSpans() {
		if spans.Has(all, s) || spans.Has(three, s) || spans.Has(nil, s) {
			t.Errorf("%v is not valid", s)
		}
	}
	for why, l := range invalid() {
		for _, s := range append(list(0, 1, 1, 2, 3, 4, 6, 7), l...) {
			if spans.Has(l, s) {
				t.Errorf("not valid, but contains %v: %s", s, why)
			}
		}
	}
}

// P4.2: Size.
func TestSize(t *testing.T) {
	for _, c := range []struct {
		l    []api.Span
		want int
	}{
		{nil, 0}, {[]api.Span{}, 0}, {list(0, 1), 1}, {list(1, 3, 5, 7, 9, 12), 7}, {list(0, top), top}, {list(top-1, top), 1},
		{list(0, 1, 2, top), top - 1}, {many(1000), 3000}, {many(999), 2997},
	} {
		if n := spans.Size(c.l); n != c.want {
			t.Errorf("%d spans have %d numbers instead of %d", len(c.l), n, c.want)
		}
	}
	for why, l := range invalid() {
		if n := spans.Size(l); n != 0 {
			t.Errorf("not valid, but %d numbers: %s", n, why)
		}
	}
}

// P4.2: Gap.
func TestGap(t *testing.T) {
	three := list(1, 3, 5, 7, 9, 12)
	for _, c := range []struct {
		l          []api.Span
		from, want int
		why        string
	}{
		{three, 0, 0, "before all"},
		{three, -1, 0, "negative"},
		{three, math.MinInt, 0, "the least one"},
		{three, 1, 3, "where one begins"},
		{three, 2, 3, "within one"},
		{three, 3, 3, "just behind one"},
		{three, 4, 4, "just before one"},
		{three, 5, 7, "where the second one begins"},
		{three, 6, 7, "the last number of one"},
		{three, 7, 7, "just behind the second one"},
		{three, 8, 8, "between two"},
		{three, 9, 12, "where the last one begins"},
		{three, 11, 12, "the last number"},
		{three, 12, 12, "just behind the last one"},
		{three, 13, 13, "behind all"},
		{three, top, top, "2^62"},
		{three, top + 1, top + 1, "greater than 2^62"},
		{three, math.MaxInt, math.MaxInt, "the greatest one"},
		{nil, -7, 0, "no spans, negative"},
		{nil, 0, 0, "no spans"},
		{nil, 7, 7, "no spans"},
		{[]api.Span{}, 7, 7, "no spans, in an empty list"},
		{list(0, 4, 6, 8), -3, 4, "negative, and 0 is contained"},
		{list(0, 4, 6, 8), math.MinInt, 4, "the least one, and 0 is contained"},
		{list(0, 4, 6, 8), 0, 4, "0 is contained"},
		{list(0, 4, 5, 8), 2, 4, "one number is missing"},
		{list(0, top), 0, top, "all are contained"},
		{list(0, top), -1, top, "negative, and all are contained"},
		{list(0, top), top - 1, top, "the greatest one"},
		{list(0, top), top, top, "behind the greatest one"},
		{list(0, top), math.MaxInt, math.MaxInt, "far behind the greatest one"},
		{many(1000), 1, 4, "the first one of 1000"},
		{many(1000), 3999, 4000, "the last one of 1000"},
	} {
		if n := spans.Gap(c.l, c.from); n != c.want {
			t.Errorf("%s: from %d on %d instead of %d", c.why, c.from, n, c.want)
		}
	}
	for why, l := range invalid() {
		for _, from := range []int{-1, 0, 1, 5, 100, top, math.MaxInt} {
			if n := spans.Gap(l, from); n != 0 {
				t.Errorf("not valid, but %d from %d on: %s", n, from, why)
			}
		}
	}
}

// universe is how many numbers the sets of the following tests may contain.
const universe = 9

// listOf returns the valid list of a set of the numbers from base on, given by its bits.
func listOf(bits, base int) []api.Span {
	var l []api.Span
	for i := 0; i < universe; i++ {
		if bits>>i&1 == 0 {
			continue
		}
		if i > 0 && bits>>(i-1)&1 == 1 {
			l[len(l)-1].Upto++
		} else {
			l = append(l, api.Span{From: base + i, Upto: base + i + 1})
		}
	}
	return l
}

// gapOf returns the smallest number from i on that is not in a set.
func gapOf(bits, i int) int {
	for bits>>i&1 == 1 {
		i++
	}
	return i
}

// P4.1, P4.2, P4.3: every span and every set of a few numbers, at the least ones, somewhere, and at the greatest ones.
func TestAllSets(t *testing.T) {
	for _, base := range []int{0, 1, 1 << 32, top - universe} {
		for bits := range 1 << universe {
			expectSet(t, bits, base)
		}
	}
}

// expectSet expects what the promises say of a set, with each span of the numbers that it may contain.
func expectSet(t *testing.T, bits, base int) {
	l := listOf(bits, base)
	size := 0
	for i := range universe {
		size += bits >> i & 1
		if n := spans.Gap(l, base+i); n != base+gapOf(bits, i) {
			t.Errorf("%v: %d is the gap from %d on", l, n, base+i)
		}
	}
	if !spans.May(l) || spans.Size(l) != size {
		t.Errorf("%v: %v, %d numbers", l, spans.May(l), spans.Size(l))
	}
	for from := range universe {
		for upto := from + 1; upto <= universe; upto++ {
			s, of := api.Span{From: base + from, Upto: base + upto}, 1<<upto-1<<from
			if r, e := spans.Add(l, s); e != api.OK || !slices.Equal(r, listOf(bits|of, base)) {
				t.Errorf("%v and %v: %v %d", l, s, r, e)
			}
			if r, e := spans.Cut(l, s); e != api.OK || !slices.Equal(r, listOf(bits&^of, base)) {
				t.Errorf("%v without %v: %v %d", l, s, r, e)
			}
			if spans.Has(l, s) != (bits&of == of) {
				t.Errorf("%v has %v: %v", l, s, spans.Has(l, s))
			}
		}
	}
}

// P4.1: every list of two spans with small ends, valid and not.
func TestMayPairs(t *testing.T) {
	const ends = 7
	for n := range ends * ends * ends * ends {
		a, b, c, d := n%ends-1, n/ends%ends-1, n/ends/ends%ends-1, n/ends/ends/ends-1
		want := 0 <= a && a < b && b < c && c < d
		if got := spans.May(list(a, b, c, d)); got != want {
			t.Errorf("%v: %v", list(a, b, c, d), got)
		}
	}
}

// P4.3: the results stay valid, and the same numbers have the same list in whichever order they were added.
func TestOnlyOneList(t *testing.T) {
	var rising, falling, mixed []api.Span
	e := api.OK
	for i := range 300 {
		for _, c := range []struct {
			l *[]api.Span
			i int
		}{{&rising, i}, {&falling, 299 - i}, {&mixed, i * 7 % 300}} {
			if *c.l, e = spans.Add(*c.l, api.Span{From: c.i * 3, Upto: c.i*3 + 1 + c.i%4}); e != api.OK || !spans.May(*c.l) {
				t.Fatalf("%d: error %d", c.i, e)
			}
		}
	}
	if !slices.Equal(rising, falling) || !slices.Equal(rising, mixed) {
		t.Errorf("%v\n%v\n%v", rising, falling, mixed)
	}
	// Of every four, the last two and the next one become one span; the first one of all stays alone.
	if len(rising) != 1+2*75 {
		t.Errorf("%d spans", len(rising))
	}
}

// R3: arguments are not modified, nor what lies behind them.
func TestArgumentsKept(t *testing.T) {
	for _, s := range list(0, 1, 3, 5, 2, 6, 6, 7, 10, 11, 13, 14, 5, 5, 0, 20) {
		whole := list(1, 3, 5, 7, 9, 12, 100, 101, 200, 201)
		l := whole[:3]
		spans.May(l)
		spans.Add(l, s)
		spans.Cut(l, s)
		spans.Has(l, s)
		spans.Size(l)
		spans.Gap(l, s.From)
		if !slices.Equal(whole, list(1, 3, 5, 7, 9, 12, 100, 101, 200, 201)) {
			t.Errorf("%v: the list was modified: %v", s, whole)
		}
	}
}

// R3: results share no memory with arguments, nor is there any room behind them that does.
func TestResultsOwned(t *testing.T) {
	for _, s := range list(0, 1, 3, 5, 2, 6, 6, 7, 10, 11, 13, 14, 50, 60, 0, 20) {
		for _, call := range []func([]api.Span, api.Span) ([]api.Span, api.Errno){spans.Add, spans.Cut} {
			whole := list(1, 3, 5, 7, 9, 12, 100, 101, 200, 201)
			r, _ := call(whole[:3], s)
			before := slices.Clone(r)
			for i := range whole {
				whole[i].From++
			}
			if !slices.Equal(r, before) {
				t.Errorf("%v: the result was modified with the argument: %v", s, r)
			}
			before = slices.Clone(whole)
			r = r[:cap(r)]
			for i := range r {
				r[i] = api.Span{From: 77, Upto: 78}
			}
			if !slices.Equal(whole, before) {
				t.Errorf("%v: the argument was modified with the result: %v", s, whole)
			}
		}
	}
}

// R5: nothing is kept from one call to the next one.
func TestCallsAgain(t *testing.T) {
	for range 3 {
		if l, e := spans.Add(list(1, 3, 5, 7), api.Span{From: 3, Upto: 5}); e != api.OK || !slices.Equal(l, list(1, 7)) {
			t.Errorf("Add: %v %d", l, e)
		}
		if l, e := spans.Cut(list(1, 7), api.Span{From: 2, Upto: 4}); e != api.OK || !slices.Equal(l, list(1, 2, 4, 7)) {
			t.Errorf("Cut: %v %d", l, e)
		}
	}
}
