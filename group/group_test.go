package group_test

import (
	"math"
	"slices"
	"testing"

	"fourinhand/api"
	"fourinhand/group"
)

const (
	longest = 16      // the greatest number of delays of a list
	highest = 1 << 18 // the greatest delay
)

func list(l ...int) []int      { return l }
func lists(l ...[]int) [][]int { return l }

// inside returns delays up to the ends of their range.
func inside() []int { return list(0, 1, 2, 1000, highest-1, highest) }

// outside returns numbers that are no delays.
func outside() []int {
	return list(-1, -2, math.MinInt, math.MinInt+1, highest+1, highest+2, 1<<62, math.MaxInt)
}

// flat returns n equal delays.
func flat(n, delay int) []int { return slices.Repeat(list(delay), n) }

// behind returns the elements of b behind those of a.
func behind(a, b []int) []int { return slices.Concat(a, b) }

// copies returns lists that share nothing with those of l.
func copies(l [][]int) [][]int {
	c := make([][]int, len(l))
	for i, x := range l {
		c[i] = slices.Clone(x)
	}
	return c
}

// ordered returns the elements of l in the order o.
func ordered[T any](l []T, o []int) []T {
	r := make([]T, len(o))
	for i, k := range o {
		r[i] = l[k]
	}
	return r
}

// rising returns n delays from first on, each by step greater than the one before.
func rising(n, first, step int) []int {
	l := make([]int, n)
	for i := range l {
		l[i] = first + i*step
	}
	return l
}

// with returns l with another delay at the place i.
func with(l []int, i, delay int) []int {
	l = slices.Clone(l)
	l[i] = delay
	return l
}

// shifted returns l with n added to all delays.
func shifted(l []int, n int) []int {
	l = slices.Clone(l)
	for i := range l {
		l[i] += n
	}
	return l
}

// orders returns all orders of the numbers below n.
func orders(n int) [][]int {
	if n == 0 {
		return [][]int{nil}
	}
	var all [][]int
	for _, o := range orders(n - 1) {
		for i := range n {
			all = append(all, slices.Insert(slices.Clone(o), i, n-1))
		}
	}
	return all
}

// every returns all lists of n delays from 0 on below high.
func every(n, high int) [][]int {
	if n == 0 {
		return [][]int{nil}
	}
	var all [][]int
	for _, l := range every(n-1, high) {
		for delay := range high {
			all = append(all, behind(l, list(delay)))
		}
	}
	return all
}

// dice returns a function that returns numbers from 0 on below n, which depend on the seed only.
func dice(seed int) func(n int) int {
	state := uint64(seed)*2862933555777941757 + 3037000493
	return func(n int) int {
		state = state*6364136223846793005 + 1442695040888963407
		return int(state>>33) % n // the lower bits repeat soon
	}
}

// rolled returns n delays from 0 to high.
func rolled(roll func(int) int, n, high int) []int {
	l := make([]int, n)
	for i := range l {
		l[i] = roll(high + 1)
	}
	return l
}

// invalid returns lists that are not valid because of their length or one element alone, and why.
func invalid() map[string][]int {
	return map[string][]int{
		"17 zeros":                flat(17, 0),
		"17 elements":             rising(17, 1, 1),
		"18 elements":             rising(18, 1, 1),
		"17 greatest ones":        flat(17, highest),
		"100000 elements":         rising(100000, 0, 1),
		"an element of -1":        list(1, 2, -1, 4),
		"a first one of -1":       list(-1, 0, 1, 2),
		"a last one of -1":        list(1, 2, 3, -1),
		"only -1":                 list(-1),
		"an element of 2^18 + 1":  list(1, highest+1, 3, 4),
		"a first one of 2^18 + 1": list(highest+1, 2, 3, 4),
		"a last one of 2^18 + 1":  list(1, 2, 3, highest+1),
		"only 2^18 + 1":           list(highest + 1),
		"the least number":        list(1, 2, 3, math.MinInt),
		"the greatest number":     list(1, 2, 3, math.MaxInt),
		"the greatest numbers":    flat(16, math.MaxInt),
		"the first of 16":         with(rising(16, 1, 1), 0, -1),
		"the last of 16":          with(rising(16, 1, 1), 15, highest+1),
	}
}

// isValid reports whether the document calls l valid.
func isValid(l []int) bool {
	for _, delay := range l {
		if delay < 0 || delay > highest {
			return false
		}
	}
	return len(l) <= longest
}

// deviation returns the deviation of the element i of l, as the document defines it.
func deviation(l []int, i int) int {
	sum := 0
	for _, x := range l {
		sum += x
	}
	return len(l)*l[i] - sum
}

// product returns the product of the last n elements of a and of b, as the document defines it.
func product(a, b []int, n int) int {
	a, b = a[len(a)-n:], b[len(b)-n:]
	sum := 0
	for i := range n {
		sum += deviation(a, i) * deviation(b, i)
	}
	return sum
}

// isAlike returns what the document says Alike is.
func isAlike(a, b []int) bool {
	if !isValid(a) || !isValid(b) || len(a) < 4 || len(b) < 4 {
		return false
	}
	n := min(len(a), len(b))
	p := product(a, b, n)
	return p > 0 && 2*p >= product(a, a, n) && 2*p >= product(b, b, n)
}

// connected returns which lists are connected by a chain of lists that are alike.
func connected(l [][]int) [4][4]bool {
	var is [4][4]bool
	for i := range l {
		for k := range l {
			is[i][k] = i == k || isAlike(l[i], l[k])
		}
	}
	for via := range l {
		for i := range l {
			for k := range l {
				is[i][k] = is[i][k] || is[i][via] && is[via][k]
			}
		}
	}
	return is
}

// numbers returns what the document says Of is.
func numbers(l [][]int) []int {
	if len(l) > 4 {
		return nil
	}
	is := connected(l)
	n := make([]int, len(l))
	for i := range l {
		for !is[i][n[i]] {
			n[i]++
		}
	}
	return n
}

// expectMay checks the result of May.
func expectMay(t *testing.T, why string, l []int, want bool) {
	t.Helper()
	before := slices.Clone(l)
	if group.May(l) != want {
		t.Errorf("%s: %v: %v instead of %v", why, l, !want, want)
	}
	if !slices.Equal(l, before) {
		t.Errorf("%s: %v was modified", why, before)
	}
}

// expectAdd checks the results of Add; and that l is not modified.
func expectAdd(t *testing.T, why string, l []int, delay int, want []int, e api.Errno) {
	t.Helper()
	before := slices.Clone(l)
	got, is := group.Add(l, delay)
	if !slices.Equal(got, want) || is != e {
		t.Errorf("%s: %v and %d: %v %d instead of %v %d", why, l, delay, got, is, want, e)
	}
	if is == api.OK && !group.May(got) {
		t.Errorf("%s: %v and %d: %v is not valid", why, l, delay, got)
	}
	if !slices.Equal(l, before) {
		t.Errorf("%s: %v was modified", why, before)
	}
}

// expectAlike checks the result of Alike, also with both lists exchanged; and that neither is modified.
func expectAlike(t *testing.T, why string, a, b []int, want bool) {
	t.Helper()
	beforeA, beforeB := slices.Clone(a), slices.Clone(b)
	if group.Alike(a, b) != want {
		t.Errorf("%s: %v and %v: %v instead of %v", why, a, b, !want, want)
	}
	if group.Alike(b, a) != want {
		t.Errorf("%s, exchanged: %v and %v: %v instead of %v", why, b, a, !want, want)
	}
	if !slices.Equal(a, beforeA) || !slices.Equal(b, beforeB) {
		t.Errorf("%s: %v and %v were modified", why, beforeA, beforeB)
	}
}

// expectOf checks the result of Of; and that the lists are not modified.
func expectOf(t *testing.T, why string, l [][]int, want ...int) {
	t.Helper()
	before := copies(l)
	if got := group.Of(l); !slices.Equal(got, want) {
		t.Errorf("%s: %v: %v instead of %v", why, l, got, want)
	}
	if !slices.EqualFunc(l, before, slices.Equal[[]int]) {
		t.Errorf("%s: %v were modified", why, before)
	}
}

// P17.1: the number of elements.
func TestMayLength(t *testing.T) {
	expectMay(t, "nil", nil, true)
	for n := range 40 {
		for _, delay := range inside() {
			expectMay(t, "equal elements", flat(n, delay), n <= 16)
		}
		expectMay(t, "rising elements", rising(n, 0, 1), n <= 16)
		expectMay(t, "elements up to 2^18", rising(n, highest-n+1, 1), n <= 16)
	}
}

// P17.1: an element at and beyond the ends of its range, in each place of each number of elements.
func TestMayElement(t *testing.T) {
	for n := 1; n <= 17; n++ {
		for i := range n {
			for _, rest := range list(0, 5, highest) {
				for _, delay := range inside() {
					expectMay(t, "inside", with(flat(n, rest), i, delay), n <= 16)
				}
				for _, delay := range outside() {
					expectMay(t, "outside", with(flat(n, rest), i, delay), false)
				}
			}
		}
	}
}

// P17.1: valid lists of 0 to 16 elements; of 16 the first one goes.
func TestAdd(t *testing.T) {
	expectAdd(t, "nil", nil, 7, list(7), api.OK)
	expectAdd(t, "none", list(), 7, list(7), api.OK)
	expectAdd(t, "one", list(7), 3, list(7, 3), api.OK)
	expectAdd(t, "the same one again", list(7, 3), 3, list(7, 3, 3), api.OK)
	expectAdd(t, "15", list(1, 2, 3, 4, 5, 6, 7, 8, 9, 10, 11, 12, 13, 14, 15), 50, list(1, 2, 3, 4, 5, 6, 7, 8, 9, 10, 11, 12, 13, 14, 15, 50), api.OK)
	expectAdd(t, "16", list(1, 2, 3, 4, 5, 6, 7, 8, 9, 10, 11, 12, 13, 14, 15, 16), 50, list(2, 3, 4, 5, 6, 7, 8, 9, 10, 11, 12, 13, 14, 15, 16, 50), api.OK)
	expectAdd(t, "16, falling", list(16, 15, 14, 13, 12, 11, 10, 9, 8, 7, 6, 5, 4, 3, 2, 1), 50, list(15, 14, 13, 12, 11, 10, 9, 8, 7, 6, 5, 4, 3, 2, 1, 50), api.OK)
	for n := range 17 {
		for _, delay := range inside() {
			for _, l := range lists(rising(n, 0, 1), rising(n, highest, -1), flat(n, 0), flat(n, highest), flat(n, delay)) {
				want := behind(l, list(delay))
				if n == 16 {
					want = want[1:]
				}
				expectAdd(t, "each length", l, delay, want, api.OK)
			}
		}
	}
}

// P17.1: of a longer series the last 16 are kept, in their order.
func TestAddSeries(t *testing.T) {
	roll := dice(1)
	var l, all []int
	for range 100 {
		delay := roll(highest + 1)
		all = append(all, delay)
		want := all[max(0, len(all)-16):]
		expectAdd(t, "a series", l, delay, want, api.OK)
		l, _ = group.Add(l, delay)
	}
}

// P17.1: a delay beyond its range, to lists of each length.
func TestAddInvalidDelay(t *testing.T) {
	for n := range 17 {
		for _, delay := range outside() {
			expectAdd(t, "outside", rising(n, 1, 1), delay, nil, api.ErrArg)
			expectAdd(t, "outside, to zeros", flat(n, 0), delay, nil, api.ErrArg)
		}
	}
}

// P17.1: lists that are not valid because of their length alone, or of one element alone; also of the first one of 16, which would go.
func TestAddInvalidList(t *testing.T) {
	for why, l := range invalid() {
		for _, delay := range slices.Concat(inside(), outside()) {
			expectAdd(t, why, l, delay, nil, api.ErrArg)
		}
	}
	for n := 1; n <= 16; n++ {
		for i := range n {
			for _, delay := range outside() {
				expectAdd(t, "one element", with(rising(n, 1, 1), i, delay), 5, nil, api.ErrArg)
			}
		}
	}
}

// R3: neither the list nor what lies behind it is modified, and the result shares nothing with it.
func TestAddKept(t *testing.T) {
	for n := range 17 {
		whole := rising(40, 1, 1)
		l := whole[:n]
		first, e := group.Add(l, 100)
		second, f := group.Add(l, 200)
		if e != api.OK || f != api.OK || !slices.Equal(whole, rising(40, 1, 1)) {
			t.Fatalf("%d elements: the argument was modified: %v", n, whole)
		}
		kept := rising(n, 1, 1)
		if n == 16 {
			kept = kept[1:]
		}
		if !slices.Equal(first, behind(kept, list(100))) || !slices.Equal(second, behind(kept, list(200))) {
			t.Fatalf("%d elements: %v and %v", n, first, second)
		}
		for i := range first {
			first[i] = -1
		}
		if !slices.Equal(whole, rising(40, 1, 1)) || !slices.Equal(second, behind(kept, list(200))) {
			t.Fatalf("%d elements: the result is not the caller's own", n)
		}
		clear(whole)
		if !slices.Equal(second, behind(kept, list(200))) {
			t.Fatalf("%d elements: the result changed with the argument", n)
		}
	}
}

// P17.2: the document's example, and a few more by hand.
func TestAlike(t *testing.T) {
	a, b, c := list(1, 2, 3, 4), list(5, 6, 7, 8), list(4, 3, 2, 1)
	expectAlike(t, "the example", a, b, true)
	expectAlike(t, "the example", a, c, false)
	expectAlike(t, "the example", b, c, false)
	for _, l := range lists(a, b, c) {
		expectAlike(t, "with itself", l, l, true)
		expectAlike(t, "with a copy of itself", l, slices.Clone(l), true)
	}
	expectAlike(t, "twice as steep", a, list(2, 4, 6, 8), true)
	expectAlike(t, "three times as steep", a, list(3, 6, 9, 12), false)
	expectAlike(t, "a hundred times as steep", a, list(0, 100, 200, 300), false)
	expectAlike(t, "steep both", list(0, 200, 400, 600), list(0, 100, 200, 300), true)
	expectAlike(t, "one outlier at the same place", list(0, 9, 0, 0, 0), list(1, 9, 1, 1, 1), true)
	expectAlike(t, "one outlier at another place", list(0, 9, 0, 0, 0), list(1, 1, 9, 1, 1), false)
	expectAlike(t, "up and down", list(0, 5, 0, 5, 0, 5), list(1, 5, 1, 5, 1, 5), true)
	expectAlike(t, "down and up", list(0, 5, 0, 5, 0, 5), list(5, 1, 5, 1, 5, 1), false)
}

// P17.2: 3, 4, 5, 15, 16 and 17 elements, in each place.
func TestAlikeLength(t *testing.T) {
	lengths := list(0, 1, 2, 3, 4, 5, 15, 16, 17)
	for _, n := range lengths {
		for _, m := range lengths {
			expectAlike(t, "rising", rising(n, 3, 2), rising(m, 7, 2), min(n, m) >= 4 && max(n, m) <= 16)
			expectAlike(t, "rising and falling", rising(n, 3, 2), rising(m, 100, -2), false)
		}
		expectAlike(t, "no list", rising(n, 3, 2), nil, false)
	}
	expectAlike(t, "no lists", nil, nil, false)
}

// P17.2: only the last elements of the longer list count, as many as the shorter one has.
func TestAlikeLast(t *testing.T) {
	short := list(1, 2, 3, 4)
	for n := range 13 {
		for _, ahead := range lists(flat(n, 0), flat(n, highest), rising(n, 20, -1), rising(n, 1000, -10), rising(n, 0, 1000)) {
			expectAlike(t, "too steep behind others", short, behind(ahead, list(50, 60, 70, 80)), false)
			expectAlike(t, "alike behind others", short, behind(ahead, list(50, 51, 52, 53)), true)
			expectAlike(t, "not alike behind others", short, behind(ahead, list(53, 52, 51, 50)), false)
		}
	}
	expectAlike(t, "alike ahead", short, list(1, 2, 3, 4, 4, 3, 2, 1), false)
	expectAlike(t, "alike in the middle", short, list(0, 0, 1, 2, 3, 4, 0), false)
	expectAlike(t, "the last ones by one more", short, list(1, 2, 3, 4, 0), false)
	expectAlike(t, "the first one more", short, list(0, 1, 2, 3, 4), true)
	for i := range 4 {
		longer := behind(flat(8, 7), with(list(11, 12, 13, 14), i, 30))
		expectAlike(t, "another one of the last four", short, longer, false)
	}
	for n := 4; n <= 16; n++ {
		for m := n; m <= 16; m++ {
			expectAlike(t, "behind great ones", rising(n, 1, 1), behind(flat(m-n, highest), rising(n, 1, 1)), true)
		}
	}
}

// P17.2: lists that are not valid, in each place; what is not valid may lie ahead of the elements that count.
func TestAlikeInvalid(t *testing.T) {
	for why, l := range invalid() {
		expectAlike(t, why+", with itself", l, l, false)
		expectAlike(t, why, l, list(1, 2, 3, 4), false)
		expectAlike(t, why, l, rising(16, 1, 1), false)
		for other, m := range invalid() {
			expectAlike(t, why+" and "+other, l, m, false)
		}
	}
	for n := 4; n <= 16; n++ {
		for i := range n {
			l := rising(n, 1, 1)
			expectAlike(t, "valid", l, with(l, i, l[i]), true)
			for _, delay := range outside() {
				expectAlike(t, "one element", l, with(l, i, delay), false)
				expectAlike(t, "one element, four count", rising(4, n-3, 1), with(l, i, delay), false)
				expectAlike(t, "one element of both", with(l, i, delay), with(l, i, delay), false)
			}
		}
	}
	ahead := behind(list(highest), rising(4, highest-3, 1))
	expectAlike(t, "2^18", rising(4, 1, 1), ahead, true)
	expectAlike(t, "2^18 + 1 ahead", rising(4, 1, 1), with(ahead, 0, highest+1), false)
	expectAlike(t, "just beyond 2^18", rising(4, 1, 1), rising(4, highest-2, 1), false)
}

// P17.2: products of 0 and below 0.
func TestAlikeProduct(t *testing.T) {
	expect := func(a, b []int, want int) {
		t.Helper()
		if p := product(a, b, len(a)); p != want {
			t.Fatalf("%v and %v: the product is %d instead of %d", a, b, p, want)
		}
		expectAlike(t, "a product of 0 or below", a, b, false)
	}
	expect(list(0, 1, 0, 1), list(0, 0, 1, 1), 0)
	expect(list(0, 2, 0, 2), list(5, 5, 9, 9), 0)
	expect(list(0, 0, 0, 0, 9), list(1, 2, 3, 4, 2), -90)
	expect(list(0, 0, 0, 1), list(0, 0, 1, 0), -4)
	expect(list(1, 2, 3, 4), list(4, 3, 2, 1), -80)
	expect(list(0, highest, 0, highest), list(highest, 0, highest, 0), -16*highest*highest)
	expect(list(0, highest, 0, highest), list(0, 0, highest, highest), 0)
}

// expectStep checks Alike of two lists of which twice the product is more, by first, than the product of a with itself, and more, by second, than that of b with itself.
func expectStep(t *testing.T, a, b []int, first, second int) {
	t.Helper()
	n := len(a)
	p, ofA, ofB := product(a, b, n), product(a, a, n), product(b, b, n)
	if p <= 0 || 2*p-ofA != first || 2*p-ofB != second {
		t.Fatalf("%v and %v: the products are %d, %d and %d", a, b, p, ofA, ofB)
	}
	want := first >= 0 && second >= 0
	expectAlike(t, "as they are", a, b, want)
	expectAlike(t, "reversed", reversed(a), reversed(b), want)
	expectAlike(t, "the other way round", mirrored(a), mirrored(b), want)
}

// reversed returns the elements of l in the reverse order.
func reversed(l []int) []int {
	l = slices.Clone(l)
	slices.Reverse(l)
	return l
}

// mirrored returns the delays that are as far below 2^18 as those of l are above 0.
func mirrored(l []int) []int {
	l = slices.Clone(l)
	for i := range l {
		l[i] = highest - l[i]
	}
	return l
}

// P17.2: twice the product one step below, equal to, and one step above the product of a list with itself; all products of n elements are multiples of n.
func TestAlikeSteps(t *testing.T) {
	expectStep(t, list(0, 0, 1, 2), list(0, 0, 0, 1), -4, 28)
	expectStep(t, list(4, 4, 3, 0), list(1, 3, 1, 0), -4, 92)
	expectStep(t, list(0, 0, 0, 2), list(0, 0, 0, 1), 0, 36)
	expectStep(t, list(0, 0, 0, 4), list(0, 0, 3, 3), 0, 48)
	expectStep(t, list(2, 4, 6, 8), list(1, 2, 3, 4), 0, 240)
	expectStep(t, list(0, 0, 1, 2), list(0, 0, 1, 1), 4, 32)
	expectStep(t, list(4, 4, 3, 0), list(1, 3, 2, 0), 4, 96)
	expectStep(t, list(0, 0, 0, 1), list(0, 1, 1, 1), -4, -4)
	expectStep(t, list(0, 0, 1, 3), list(0, 3, 2, 3), 0, 0)
	expectStep(t, list(0, 0, 0, 1), list(0, 0, 0, 1), 12, 12)
	expectStep(t, list(1, 2, 3, 0, 0), list(1, 2, 3, 2, 1), -10, 90)
	expectStep(t, list(3, 2, 0, 2, 0), list(3, 1, 2, 2, 0), 10, 60)
}

// P17.2: the same with great numbers, of which the smallest steps must not be lost: the products are about 2^46.
func TestAlikeGreatSteps(t *testing.T) {
	a := slices.Concat(flat(7, 0), flat(8, highest), list(139810)) // the deviation of the last one is -2
	half := slices.Concat(flat(7, 0), flat(8, highest/2), list(139810/2))
	const rest = 49258120924160
	expectStep(t, a, with(half, 15, 139810/2+1), -64, rest-64)
	expectStep(t, a, half, 0, rest+208)
	expectStep(t, a, with(half, 15, 139810/2-1), 64, rest)
}

// P17.2, P17.4: lists whose elements are all equal, in each place.
func TestAlikeFlat(t *testing.T) {
	for n := 4; n <= 16; n++ {
		for _, delay := range inside() {
			l := flat(n, delay)
			expectAlike(t, "with itself", l, l, false)
			for _, other := range inside() {
				expectAlike(t, "with another one", l, flat(n, other), false)
				expectAlike(t, "with a longer one", l, flat(16, other), false)
			}
			expectAlike(t, "with a rising one", l, rising(n, 1, 1), false)
			expectAlike(t, "with a longer rising one", l, rising(16, 1, 1), false)
			expectAlike(t, "with a falling one", l, rising(n, 100, -1), false)
			for i := range n {
				expectAlike(t, "with one that differs once", l, with(l, i, 5), false)
			}
		}
	}
	for n := 5; n <= 16; n++ {
		l := behind(rising(n-4, 10, 3), flat(4, 20))
		expectAlike(t, "of which the last ones are equal", l, rising(4, 1, 1), false)
		expectAlike(t, "of which the last ones are equal, all count", l, l, true)
	}
}

// P17.2: the greatest deviations: delays of 0 and 2^18 in every place and order.
func TestAlikeGreatest(t *testing.T) {
	for n := 4; n <= 6; n++ {
		var all [][]int
		for _, l := range every(n, 2) {
			for i := range l {
				l[i] *= highest
			}
			all = append(all, l)
		}
		for _, a := range all {
			for _, b := range all {
				expectAlike(t, "by the definition", a, b, isAlike(a, b))
			}
		}
	}
	others := lists(flat(16, 0), behind(flat(8, 0), flat(8, highest)), behind(flat(15, highest), list(0)), rising(16, 0, highest/15), list(0, highest, 0, highest))
	for bits := range 1 << 16 {
		l := make([]int, 16)
		for i := range l {
			l[i] = bits >> i & 1 * highest
		}
		if group.Alike(l, l) != (bits != 0 && bits != 1<<16-1) {
			t.Fatalf("%v with itself", l)
		}
		if group.Alike(l, mirrored(l)) || group.Alike(mirrored(l), l) {
			t.Fatalf("%v and the contrary", l)
		}
		if bits%61 == 0 {
			for _, other := range others {
				expectAlike(t, "by the definition", l, other, isAlike(l, other))
			}
		}
	}
}

// P17.2: all lists of a few small delays, by the definition; all results near the limits are among them.
func TestAlikeExhaustive(t *testing.T) {
	steps := map[int]int{}
	for _, all := range [][][]int{every(4, 4), every(5, 3), slices.Concat(every(3, 2), every(4, 2), every(5, 2), every(6, 2))} {
		for _, a := range all {
			for _, b := range all {
				expectAlike(t, "by the definition", a, b, isAlike(a, b))
				if n := len(a); n == 4 && len(b) == 4 && product(a, b, 4) > 0 {
					steps[2*product(a, b, 4)-product(a, a, 4)]++
				}
			}
		}
	}
	for _, step := range list(-4, 0, 4) {
		if steps[step] == 0 {
			t.Errorf("no lists with a step of %d", step)
		}
	}
}

// P17.2: longer lists of all lengths, with small, great and nearly equal delays, by the definition.
func TestAlikeRolled(t *testing.T) {
	yes := 0
	for seed := range 30000 {
		roll := dice(seed)
		n, m, high := roll(18), roll(18), list(1, 3, 100, highest)[roll(4)]
		a := rolled(roll, n, high)
		b := rolled(roll, m, high)
		for i := 1; i <= min(n, m); i++ {
			switch roll(3) {
			case 0:
				b[m-i] = a[n-i]
			case 1:
				b[m-i] = (a[n-i] + b[m-i]) / 2
			}
		}
		expectAlike(t, "rolled", a, b, isAlike(a, b))
		if isAlike(a, b) {
			yes++
		}
	}
	if yes < 3000 || yes > 27000 {
		t.Errorf("%d of 30000 are alike", yes)
	}
}

// P17.3: none, one, two, three, four and five lists.
func TestOfNumber(t *testing.T) {
	up, down, odd := list(1, 2, 3, 4), list(4, 3, 2, 1), list(0, 5, 0, 5)
	expectOf(t, "nil", nil)
	expectOf(t, "none", lists())
	expectOf(t, "one", lists(up), 0)
	expectOf(t, "one without delays", lists(nil), 0)
	expectOf(t, "two, alike", lists(up, up), 0, 0)
	expectOf(t, "two, not alike", lists(up, down), 0, 1)
	expectOf(t, "three, alike", lists(up, list(5, 6, 7, 8), list(2, 4, 6, 8)), 0, 0, 0)
	expectOf(t, "three, none alike", lists(up, down, odd), 0, 1, 2)
	expectOf(t, "three, the first two", lists(up, up, down), 0, 0, 2)
	expectOf(t, "three, the last two", lists(down, up, up), 0, 1, 1)
	expectOf(t, "three, the outer two", lists(up, down, up), 0, 1, 0)
	expectOf(t, "the example", lists(up, list(5, 6, 7, 8), down), 0, 0, 2)
	expectOf(t, "four, alike", lists(up, up, up, up), 0, 0, 0, 0)
	expectOf(t, "four, none alike", lists(up, down, odd, list(9, 0, 0, 9)), 0, 1, 2, 3)
	expectOf(t, "four, the last two", lists(odd, down, up, up), 0, 1, 2, 2)
	expectOf(t, "four, the outer two", lists(up, down, odd, up), 0, 1, 2, 0)
	expectOf(t, "four, the first one apart", lists(down, up, up, up), 0, 1, 1, 1)
	expectOf(t, "four, the last one apart", lists(up, up, up, down), 0, 0, 0, 3)
	expectOf(t, "four, without delays", make([][]int, 4), 0, 1, 2, 3)
	expectOf(t, "five, alike", lists(up, up, up, up, up))
	expectOf(t, "five, none alike", lists(up, down, odd, nil, nil))
	expectOf(t, "five without delays", make([][]int, 5))
	expectOf(t, "six", make([][]int, 6))
	expectOf(t, "100000", slices.Repeat(lists(up), 100000))
}

// P17.3: two groups of two, in each order.
func TestOfPairs(t *testing.T) {
	up, down := list(1, 2, 3, 4), list(4, 3, 2, 1)
	expectOf(t, "pairs", lists(up, up, down, down), 0, 0, 2, 2)
	expectOf(t, "pairs", lists(up, down, up, down), 0, 1, 0, 1)
	expectOf(t, "pairs", lists(up, down, down, up), 0, 1, 1, 0)
	expectOf(t, "pairs", lists(down, down, up, up), 0, 0, 2, 2)
	expectOf(t, "pairs", lists(down, up, down, up), 0, 1, 0, 1)
	expectOf(t, "pairs", lists(down, up, up, down), 0, 1, 1, 0)
}

// chain returns four lists of which each is alike with the next one, and no others are.
func chain() [][]int {
	return lists(list(0, 1, 0, 1), list(0, 0, 0, 1), list(0, 0, 1, 1), list(0, 0, 1, 0))
}

// P17.3: a chain of lists is one group, in each order of the lists; without one of its inner lists it is two.
func TestOfChain(t *testing.T) {
	l := chain()
	for i, a := range l {
		for k, b := range l {
			expectAlike(t, "the chain", a, b, i-k >= -1 && i-k <= 1)
		}
	}
	for _, o := range orders(3) {
		expectOf(t, "a chain of three", ordered(l[:3], o), 0, 0, 0)
		expectOf(t, "a chain of three", ordered(l[1:], o), 0, 0, 0)
	}
	falling := list(7, 6, 5, 4)
	for _, o := range orders(4) {
		expectOf(t, "a chain of four", ordered(l, o), 0, 0, 0, 0)
		for _, apart := range lists(falling, nil, flat(4, 5), list(0, 0, 1), list(0, 0, 1, -1)) {
			for place := range l {
				broken := slices.Clone(l)
				broken[place] = apart
				is := ordered(broken, o)
				expectOf(t, "a broken chain", is, numbers(is)...)
			}
		}
	}
	expectOf(t, "without the second one", lists(l[0], falling, l[2], l[3]), 0, 1, 2, 2)
	expectOf(t, "without the third one", lists(l[3], l[0], falling, l[1]), 0, 1, 2, 1)
}

// P17.3: a list that is alike with all others, which are not alike with each other, in each place; and four in a ring.
func TestOfStarAndRing(t *testing.T) {
	star := lists(list(1, 0, 1, 0), list(0, 0, 1, 0), list(1, 0, 0, 0), list(1, 0, 2, 0))
	ring := lists(list(1, 0, 2, 0), list(0, 0, 2, 1), list(0, 1, 2, 1), list(1, 1, 2, 0))
	for _, o := range orders(4) {
		expectOf(t, "a star", ordered(star, o), 0, 0, 0, 0)
		expectOf(t, "a ring", ordered(ring, o), 0, 0, 0, 0)
	}
}

// P17.3: each pattern of which of four lists are alike with which, by the definition.
func TestOfPatterns(t *testing.T) {
	seen := map[[6]bool]int{}
	small := every(4, 4)
	roll := dice(17)
	for range 100000 {
		l := make([][]int, 4)
		for i := range l {
			l[i] = small[roll(len(small))]
		}
		var pattern [6]bool
		for i, pair := range [6][2]int{{0, 1}, {0, 2}, {0, 3}, {1, 2}, {1, 3}, {2, 3}} {
			pattern[i] = isAlike(l[pair[0]], l[pair[1]])
		}
		seen[pattern]++
		if seen[pattern] <= 100 {
			for n := range 5 {
				expectOf(t, "a pattern", l[:n], numbers(l[:n])...)
			}
		}
	}
	if len(seen) != 64 {
		t.Errorf("%d patterns", len(seen))
	}
}

// P17.3: lists that are not valid, or too short, are in their own groups, in each place.
func TestOfInvalid(t *testing.T) {
	up := list(1, 2, 3, 4)
	bad := invalid()
	bad["no delays"] = nil
	bad["one delay"] = list(1)
	bad["three delays"] = list(2, 3, 4)
	bad["equal delays"] = flat(4, 9)
	for why, x := range bad {
		expectOf(t, why, lists(x), 0)
		expectOf(t, why, lists(x, x), 0, 1)
		expectOf(t, why, lists(x, up), 0, 1)
		expectOf(t, why, lists(up, x), 0, 1)
		expectOf(t, why, lists(x, up, up), 0, 1, 1)
		expectOf(t, why, lists(up, x, up), 0, 1, 0)
		expectOf(t, why, lists(up, up, x), 0, 0, 2)
		expectOf(t, why, lists(x, up, up, up), 0, 1, 1, 1)
		expectOf(t, why, lists(up, x, up, up), 0, 1, 0, 0)
		expectOf(t, why, lists(up, up, x, up), 0, 0, 2, 0)
		expectOf(t, why, lists(up, up, up, x), 0, 0, 0, 3)
		expectOf(t, why, lists(x, up, x, up), 0, 1, 2, 1)
		expectOf(t, why, lists(x, x, x, x), 0, 1, 2, 3)
		expectOf(t, why, lists(x, x, x, x, x))
		expectOf(t, why, lists(up, up, up, up, x))
	}
}

// P17.3: lists of all lengths, of which a few are alike, by the definition.
func TestOfRolled(t *testing.T) {
	for seed := range 20000 {
		roll := dice(seed)
		l := make([][]int, roll(6))
		for i := range l {
			l[i] = rolled(roll, roll(18), list(1, 3, highest)[roll(3)])
			if i > 0 && roll(2) == 0 {
				l[i] = slices.Clone(l[roll(i)])
			}
			if n := len(l[i]); n > 0 && roll(2) == 0 {
				l[i][roll(n)] = roll(highest + 2)
			}
		}
		expectOf(t, "rolled", l, numbers(l)...)
	}
}

// R3: the result of Of is the caller's own.
func TestOfOwned(t *testing.T) {
	l := chain()
	first := group.Of(l)
	first[3] = 9
	expectOf(t, "again", l, 0, 0, 0, 0)
	second := group.Of(l)
	l[0][0] = 100
	if !slices.Equal(first, list(0, 0, 0, 9)) || !slices.Equal(second, list(0, 0, 0, 0)) {
		t.Errorf("%v and %v", first, second)
	}
}

// P17.4: lists that are alike have the same number, and one whose elements are all equal has its own.
func TestSameNumber(t *testing.T) {
	small := every(4, 3)
	roll := dice(4)
	for range 5000 {
		l := make([][]int, 4)
		for i := range l {
			l[i] = small[roll(len(small))]
		}
		n := group.Of(l)
		for i, a := range l {
			for k, b := range l {
				if group.Alike(a, b) && n[i] != n[k] {
					t.Fatalf("%v and %v are alike: %v", a, b, n)
				}
				if i != k && n[i] == n[k] && slices.Min(a) == slices.Max(a) {
					t.Fatalf("%v is in the group of %v: %v", a, b, n)
				}
			}
		}
	}
}

// P17.4: adding a constant to all delays of one list, or of both, changes nothing, as long as they are valid.
func TestShifted(t *testing.T) {
	for seed := range 2000 {
		roll := dice(seed)
		n, high := 4+roll(13), list(1, 3, 1000, highest/2)[roll(4)]
		a, b := rolled(roll, n, high), rolled(roll, 4+roll(13), high)
		for i := 1; i <= min(len(a), len(b)); i++ {
			if roll(2) == 0 {
				b[len(b)-i] = a[len(a)-i]
			}
		}
		want := group.Alike(a, b)
		for _, by := range list(1, 2, 1000, highest-high-1, highest-high) {
			expectAlike(t, "the first one", shifted(a, by), b, want)
			expectAlike(t, "the second one", a, shifted(b, by), want)
			expectAlike(t, "both", shifted(a, by), shifted(b, highest-high-by), want)
		}
		top := highest - slices.Max(a)
		expectAlike(t, "up to 2^18", shifted(a, top), b, want)
		expectAlike(t, "beyond 2^18", shifted(a, top+1), b, false)
		expectAlike(t, "down to 0", shifted(a, -slices.Min(a)), b, want)
		expectAlike(t, "below 0", shifted(a, -slices.Min(a)-1), b, false)
		before := group.Of(lists(a, b, a))
		expectOf(t, "shifted", lists(shifted(a, 1), b, shifted(a, top)), before...)
	}
}

// R5: nothing is kept from one call to the next one.
func TestCallsAgain(t *testing.T) {
	for range 20 {
		expectMay(t, "again", list(1, 2, 3), true)
		expectMay(t, "again", list(1, -2, 3), false)
		expectAdd(t, "again", list(1, 2, 3), 4, list(1, 2, 3, 4), api.OK)
		expectAdd(t, "again", list(1, 2, 3), -1, nil, api.ErrArg)
		expectAlike(t, "again", list(1, 2, 3, 4), list(5, 6, 7, 8), true)
		expectAlike(t, "again", list(1, 2, 3, 4), list(4, 3, 2, 1), false)
		expectOf(t, "again", chain(), 0, 0, 0, 0)
		expectOf(t, "again", chain()[2:], 0, 0)
		expectOf(t, "again", lists(chain()[0], nil, chain()[3]), 0, 1, 2)
	}
}
