package ecf_test

import (
	"math"
	"math/big"
	"slices"
	"testing"

	"fourinhand/api"
	"fourinhand/ecf"
)

const (
	widest   = 1 << 30 // the greatest window
	greatest = 1 << 40 // the greatest number of bytes, and the greatest time
	segment  = 1460    // the greatest segment
)

func list(l ...api.Choice) []api.Choice { return l }

// up returns a choice that is up.
func up(cwnd, flight, srtt, spread int) api.Choice {
	return api.Choice{Up: true, Cwnd: cwnd, Flight: flight, Srtt: srtt, Var: spread}
}

// free returns a choice with room for 100 bytes.
func free(srtt int) api.Choice { return up(1000, 0, srtt, 0) }

// full returns a choice without room.
func full(srtt int) api.Choice { return up(1000, 1000, srtt, 0) }

// inside returns numbers up to the ends of the range from low to high.
func inside(low, high int) []int {
	return []int{low, low + 1, (low + high) / 2, high - 1, high}
}

// outside returns numbers that are not in the range from low to high.
func outside(low, high int) []int {
	return []int{low - 1, low - 2, -high, math.MinInt, math.MinInt + 1, high + 1, high + 2, 1 << 62, math.MaxInt - 1, math.MaxInt}
}

// invalid returns choices that are like x but not valid for one reason alone, and why.
func invalid(x api.Choice) map[string]api.Choice {
	changed := func(change func(*api.Choice)) api.Choice {
		c := x
		change(&c)
		return c
	}
	return map[string]api.Choice{
		"not Up":                     changed(func(c *api.Choice) { c.Up = false }),
		"a Cwnd of 0":                changed(func(c *api.Choice) { c.Cwnd = 0 }),
		"a Cwnd of -1":               changed(func(c *api.Choice) { c.Cwnd = -1 }),
		"the least Cwnd of all":      changed(func(c *api.Choice) { c.Cwnd = math.MinInt }),
		"a Cwnd of 2^30 + 1":         changed(func(c *api.Choice) { c.Cwnd = widest + 1 }),
		"the greatest Cwnd of all":   changed(func(c *api.Choice) { c.Cwnd = math.MaxInt }),
		"a Flight of -1":             changed(func(c *api.Choice) { c.Flight = -1 }),
		"the least Flight of all":    changed(func(c *api.Choice) { c.Flight = math.MinInt }),
		"a Flight of 2^40 + 1":       changed(func(c *api.Choice) { c.Flight = greatest + 1 }),
		"the greatest Flight of all": changed(func(c *api.Choice) { c.Flight = math.MaxInt }),
		"an Srtt of -1":              changed(func(c *api.Choice) { c.Srtt = -1 }),
		"the least Srtt of all":      changed(func(c *api.Choice) { c.Srtt = math.MinInt }),
		"an Srtt of 2^40 + 1":        changed(func(c *api.Choice) { c.Srtt = greatest + 1 }),
		"the greatest Srtt of all":   changed(func(c *api.Choice) { c.Srtt = math.MaxInt }),
		"a Var of -1":                changed(func(c *api.Choice) { c.Var = -1 }),
		"the least Var of all":       changed(func(c *api.Choice) { c.Var = math.MinInt }),
		"a Var of 2^40 + 1":          changed(func(c *api.Choice) { c.Var = greatest + 1 }),
		"the greatest Var of all":    changed(func(c *api.Choice) { c.Var = math.MaxInt }),
	}
}

// orders returns all orders of the choices of l.
func orders(l []api.Choice) [][]api.Choice {
	if len(l) == 0 {
		return [][]api.Choice{nil}
	}
	var all [][]api.Choice
	for _, o := range orders(l[1:]) {
		for i := range l {
			all = append(all, slices.Insert(slices.Clone(o), i, l[0]))
		}
	}
	return all
}

// dice returns a function that returns numbers from 0 on below n, which depend on the seed only.
func dice(seed int) func(n int) int {
	state := uint64(seed)*2862933555777941757 + 3037000493
	return func(n int) int {
		state = state*6364136223846793005 + 1442695040888963407
		return int(state>>24) % n // the lower bits repeat soon
	}
}

// isWithin reports whether n is in the range from low to high.
func isWithin(n, low, high int) bool { return n >= low && n <= high }

// isValid reports whether the document calls x valid.
func isValid(x api.Choice) bool {
	if !x.Up || !isWithin(x.Cwnd, 1, widest) {
		return false
	}
	return isWithin(x.Flight, 0, greatest) && isWithin(x.Srtt, 0, greatest) && isWithin(x.Var, 0, greatest)
}

// hasRoom reports whether the document says that x has room for mss, and mss is in its range.
func hasRoom(x api.Choice, mss int) bool {
	return isValid(x) && isWithin(mss, 1, segment) && x.Flight+mss <= x.Cwnd
}

// first returns the index of the first choice with the smallest Srtt among those that are, or -1.
func first(l []api.Choice, are func(api.Choice) bool) int {
	return slices.IndexFunc(l, func(x api.Choice) bool {
		return are(x) && !slices.ContainsFunc(l, func(y api.Choice) bool { return are(y) && y.Srtt < x.Srtt })
	})
}

// sum and product compute with exact numbers.
func sum(a, b int) *big.Int     { return new(big.Int).Add(big.NewInt(int64(a)), big.NewInt(int64(b))) }
func product(l ...int) *big.Int { return scaled(big.NewInt(1), l...) }

func scaled(n *big.Int, l ...int) *big.Int {
	n = new(big.Int).Set(n)
	for _, k := range l {
		n.Mul(n, big.NewInt(int64(k)))
	}
	return n
}

// isWaited reports whether the document says that f is waited for, rather than s picked.
func isWaited(f, s api.Choice, bytes int, waits bool) bool {
	d, c := max(f.Var, s.Var), 4
	if waits {
		c = 5
	}
	n, m := 1+bytes/f.Cwnd, 1+bytes/s.Cwnd
	early := product(4, n, f.Srtt).Cmp(scaled(sum(s.Srtt, d), c)) < 0
	return early && product(m, s.Srtt).Cmp(sum(2*f.Srtt, d)) >= 0
}

// picked returns what the document says Pick returns.
func picked(l []api.Choice, bytes, mss int, waits bool) (int, bool) {
	s := first(l, func(x api.Choice) bool { return hasRoom(x, mss) })
	if len(l) > 4 || !isWithin(bytes, 1, greatest) || s < 0 {
		return -1, false
	}
	f := first(l, isValid)
	if !hasRoom(l[f], mss) && isWaited(l[f], l[s], bytes, waits) {
		return -1, true
	}
	return s, false
}

// expectMay checks the result of May.
func expectMay(t *testing.T, why string, x api.Choice, want bool) {
	t.Helper()
	if ecf.May(x) != want {
		t.Errorf("%s: %+v: %v instead of %v", why, x, !want, want)
	}
}

// expectRoom checks the result of Room.
func expectRoom(t *testing.T, why string, x api.Choice, mss int, want bool) {
	t.Helper()
	if ecf.Room(x, mss) != want {
		t.Errorf("%s: %+v with %d: %v instead of %v", why, x, mss, !want, want)
	}
}

// expectPick checks the results of Pick, and what is promised for all of them; and that the list is not modified.
func expectPick(t *testing.T, why string, l []api.Choice, bytes, mss int, waits bool, want int, waited bool) {
	t.Helper()
	before := slices.Clone(l)
	i, waiting := ecf.Pick(l, bytes, mss, waits)
	if i != want || waiting != waited {
		t.Errorf("%s: %+v with %d, %d and %v: %d %v instead of %d %v", why, l, bytes, mss, waits, i, waiting, want, waited)
	}
	if !slices.Equal(l, before) {
		t.Errorf("%s: %+v was modified", why, before)
	}
	expectFollowing(t, l, mss, i, waiting)
}

// expectFollowing checks what follows for a result (P18.3). By P18.2 the choice that is waited for may also be as fast as one that has room, if it is ahead of it in the list.
func expectFollowing(t *testing.T, l []api.Choice, mss, i int, waiting bool) {
	t.Helper()
	room := func(x api.Choice) bool { return hasRoom(x, mss) }
	if i < -1 || i >= len(l) || i >= 0 && (waiting || !room(l[i])) {
		t.Errorf("%+v with %d: %d %v, which has no room", l, mss, i, waiting)
	}
	if !waiting {
		return
	}
	f, s := first(l, isValid), first(l, room)
	if s < 0 || room(l[f]) || l[f].Srtt > l[s].Srtt || l[f].Srtt == l[s].Srtt && f > s {
		t.Errorf("%+v with %d: there is no faster choice to wait for", l, mss)
	}
}

// expectDefined checks Pick against the definition.
func expectDefined(t *testing.T, why string, l []api.Choice, bytes, mss int, waits bool) {
	t.Helper()
	i, waited := picked(l, bytes, mss, waits)
	expectPick(t, why, l, bytes, mss, waits, i, waited)
}

// P18.1: Up set and not set.
func TestMayUp(t *testing.T) {
	expectMay(t, "the zero value", api.Choice{}, false)
	expectMay(t, "only Up", api.Choice{Up: true}, false)
	expectMay(t, "Up and a Cwnd", api.Choice{Up: true, Cwnd: 1}, true)
	expectMay(t, "a Cwnd", api.Choice{Cwnd: 1}, false)
	expectMay(t, "Up", up(1000, 500, 80000, 40000), true)
	expectMay(t, "not Up", api.Choice{Cwnd: 1000, Flight: 500, Srtt: 80000, Var: 40000}, false)
	expectMay(t, "more in flight than the window", up(1000, 1001, 0, 0), true)
}

// P18.1: each field by itself at and beyond the ends of its range, with the least and with the greatest other fields.
func TestMayFields(t *testing.T) {
	for _, x := range list(up(1, 0, 0, 0), up(1000, 900, 80000, 40000), up(widest, greatest, greatest, greatest)) {
		check := func(field string, at *int, low, high int) {
			old := *at
			for _, *at = range inside(low, high) {
				expectMay(t, field, x, true)
			}
			for _, *at = range outside(low, high) {
				expectMay(t, field, x, false)
			}
			*at = old
		}
		check("Cwnd", &x.Cwnd, 1, widest)
		check("Flight", &x.Flight, 0, greatest)
		check("Srtt", &x.Srtt, 0, greatest)
		check("Var", &x.Var, 0, greatest)
		for why, y := range invalid(x) {
			expectMay(t, why, y, false)
		}
	}
}

// P18.1: all combinations of the ends of all ranges and what lies beyond, by the definition.
func TestMayCombined(t *testing.T) {
	for _, cwnd := range []int{0, 1, widest, widest + 1} {
		for _, flight := range []int{-1, 0, greatest, greatest + 1} {
			for _, srtt := range []int{-1, 0, greatest, greatest + 1} {
				for _, spread := range []int{-1, 0, greatest, greatest + 1} {
					x := up(cwnd, flight, srtt, spread)
					expectMay(t, "combined", x, isValid(x))
					x.Up = false
					expectMay(t, "combined", x, false)
				}
			}
		}
	}
}

// P18.1: Flight + mss one below, equal to and one above Cwnd.
func TestRoom(t *testing.T) {
	for _, mss := range []int{1, 2, 100, 1459, 1460} {
		for _, cwnd := range []int{1461, 1462, 10000, widest - 1, widest} {
			expectRoom(t, "one below", up(cwnd, cwnd-mss-1, 5, 5), mss, true)
			expectRoom(t, "equal", up(cwnd, cwnd-mss, 5, 5), mss, true)
			expectRoom(t, "one above", up(cwnd, cwnd-mss+1, 5, 5), mss, false)
			expectRoom(t, "nothing in flight", up(cwnd, 0, 5, 5), mss, true)
			expectRoom(t, "a full window", up(cwnd, cwnd, 5, 5), mss, false)
			expectRoom(t, "more in flight than the window", up(cwnd, cwnd+1, 5, 5), mss, false)
			expectRoom(t, "the greatest Flight", up(cwnd, greatest, 5, 5), mss, false)
		}
		expectRoom(t, "a window of just mss", up(mss, 0, 0, 0), mss, true)
		expectRoom(t, "a window of just mss, with something in flight", up(mss, 1, 0, 0), mss, false)
		expectRoom(t, "the times change nothing", up(mss, 0, greatest, greatest), mss, true)
		if mss > 1 {
			expectRoom(t, "a smaller window", up(mss-1, 0, 0, 0), mss, false)
		}
	}
}

// P18.1: an mss at and beyond the ends of its range.
func TestRoomMss(t *testing.T) {
	for _, x := range list(up(1460, 0, 0, 0), up(2000, 0, 80, 40), up(widest, 1000, greatest, greatest)) {
		for _, mss := range inside(1, segment) {
			expectRoom(t, "inside", x, mss, true)
		}
		for _, mss := range outside(1, segment) {
			expectRoom(t, "outside", x, mss, false)
		}
	}
}

// P18.1: a choice that is not valid for one reason alone has no room.
func TestRoomInvalid(t *testing.T) {
	for _, x := range list(up(1000, 0, 80, 40), up(widest, widest-1460, greatest, greatest)) {
		for _, mss := range []int{1, 100, 1000} {
			expectRoom(t, "valid", x, mss, true)
			for why, y := range invalid(x) {
				expectRoom(t, why, y, mss, false)
			}
		}
	}
	expectRoom(t, "the zero value", api.Choice{}, 1, false)
	expectRoom(t, "the zero value, without bytes", api.Choice{}, 0, false)
	expectRoom(t, "a sum that is too great", up(math.MaxInt, math.MaxInt, 0, 0), 1, false)
	expectRoom(t, "both too great", up(math.MaxInt, math.MaxInt, 0, 0), math.MaxInt, false)
}

// The document's examples.
func TestExamples(t *testing.T) {
	expectPick(t, "a single choice that has room", list(free(80)), 500, 100, false, 0, false)
	expectPick(t, "few bytes", list(full(10), free(100)), 500, 100, false, -1, true)
	expectPick(t, "few bytes, in the other order", list(free(100), full(10)), 500, 100, false, -1, true)
	expectPick(t, "many bytes", list(full(10), free(100)), 20000, 100, false, 1, false)
}

// P18.2: no choice, one, four, five and more.
func TestPickNumber(t *testing.T) {
	for _, waits := range []bool{false, true} {
		expectPick(t, "nil", nil, 500, 100, waits, -1, false)
		expectPick(t, "none", list(), 500, 100, waits, -1, false)
		expectPick(t, "one with room", list(free(80)), 500, 100, waits, 0, false)
		expectPick(t, "one without room", list(full(80)), 500, 100, waits, -1, false)
		for n := 1; n <= 4; n++ {
			expectPick(t, "with room", slices.Repeat(list(free(80)), n), 500, 100, waits, 0, false)
			expectPick(t, "without room", slices.Repeat(list(full(80)), n), 500, 100, waits, -1, false)
			fast := append(slices.Repeat(list(free(80)), n-1), full(10))
			expectPick(t, "a fast one without room", fast, 500, 100, waits, -1, n > 1)
			fast = append(slices.Repeat(list(free(80)), n-1), free(10))
			expectPick(t, "a fast one with room", fast, 500, 100, waits, n-1, false)
		}
		for _, n := range []int{5, 6, 100, 100000} {
			expectPick(t, "too many", slices.Repeat(list(free(80)), n), 500, 100, waits, -1, false)
			expectPick(t, "too many without room", slices.Repeat(list(full(80)), n), 500, 100, waits, -1, false)
			expectPick(t, "too many that are not valid", make([]api.Choice, n), 500, 100, waits, -1, false)
			fast := append(slices.Repeat(list(free(80)), n-1), full(10))
			expectPick(t, "too many, not to be waited for", fast, 500, 100, waits, -1, false)
			one := append(make([]api.Choice, n-1), free(10))
			expectPick(t, "too many, with one that is valid", one, 500, 100, waits, -1, false)
		}
	}
}

// P18.2: bytes at and beyond the ends of their range, where a choice has room, where one is waited for, and where none has room.
func TestPickBytes(t *testing.T) {
	never := list(up(widest, widest, 1, 0), free(greatest)) // each number of bytes waits for the first one
	for _, waits := range []bool{false, true} {
		for _, bytes := range inside(1, greatest) {
			expectPick(t, "inside", list(free(80)), bytes, 100, waits, 0, false)
			expectPick(t, "inside, waiting", never, bytes, 100, waits, -1, true)
			expectPick(t, "inside, without room", list(full(80)), bytes, 100, waits, -1, false)
		}
		for _, bytes := range append(outside(1, greatest), 0) {
			expectPick(t, "outside", list(free(80)), bytes, 100, waits, -1, false)
			expectPick(t, "outside, not waiting", never, bytes, 100, waits, -1, false)
			expectPick(t, "outside, without room", list(full(80)), bytes, 100, waits, -1, false)
		}
	}
}

// P18.2: an mss at and beyond the ends of its range, likewise.
func TestPickMss(t *testing.T) {
	one := list(up(1460, 0, 80, 0))
	wait := list(full(10), up(1460, 0, 80, 0))
	for _, waits := range []bool{false, true} {
		for _, mss := range inside(1, segment) {
			expectPick(t, "inside", one, 500, mss, waits, 0, false)
			expectPick(t, "inside, waiting", wait, 500, mss, waits, -1, true)
		}
		for _, mss := range outside(1, segment) {
			expectPick(t, "outside", one, 500, mss, waits, -1, false)
			expectPick(t, "outside, not waiting", wait, 500, mss, waits, -1, false)
			expectPick(t, "outside, a wide window", list(up(widest, 0, 80, 0)), 500, mss, waits, -1, false)
		}
	}
	narrow := list(up(1000, 950, 10, 0), up(1000, 940, 11, 0), up(1000, 930, 12, 0))
	expectPick(t, "room in the first one", narrow, 500, 50, false, 0, false)
	expectPick(t, "room in the second one", narrow, 500, 51, false, 1, false)
	expectPick(t, "room in the second one", narrow, 500, 60, false, 1, false)
	expectPick(t, "room in the third one", narrow, 500, 61, false, 2, false)
	expectPick(t, "room in the third one", narrow, 500, 70, false, 2, false)
	expectPick(t, "room in none", narrow, 500, 71, false, -1, false)
}

// P18.2: choices of which none is valid, or none has room; nothing is waited for then.
func TestPickNone(t *testing.T) {
	for n := 1; n <= 4; n++ {
		expectPick(t, "zero values", make([]api.Choice, n), 500, 100, false, -1, false)
		expectPick(t, "zero values", make([]api.Choice, n), 500, 100, true, -1, false)
		for why, x := range invalid(free(80)) {
			expectPick(t, why, slices.Repeat(list(x), n), 500, 100, false, -1, false)
			for i := range n {
				l := slices.Repeat(list(x), n)
				l[i] = full(10)
				expectPick(t, why+", and one without room", l, 500, 100, false, -1, false)
				expectPick(t, why+", and one without room", l, 500, 100, true, -1, false)
				l[i] = free(10)
				expectPick(t, why+", and one with room", l, 500, 100, false, i, false)
			}
		}
	}
	for _, l := range orders(list(full(10), full(20), up(1000, 901, 30, 0), up(99, 0, 40, 0))) {
		expectPick(t, "none has room", l, 500, 100, false, -1, false)
		expectPick(t, "none has room", l, 500, 100, true, -1, false)
	}
}

// P18.2: the fastest choice in each place, with and without room.
func TestPickFastest(t *testing.T) {
	for n := 2; n <= 4; n++ {
		for i := range n {
			l := slices.Repeat(list(free(100)), n)
			l[i] = free(10)
			expectPick(t, "the fastest one has room", l, 500, 100, false, i, false)
			expectPick(t, "the fastest one has room", l, 500, 100, true, i, false)
			expectPick(t, "the fastest one has room, many bytes", l, 50000, 100, false, i, false)
			l[i] = full(10)
			expectPick(t, "the fastest one has no room", l, 500, 100, false, -1, true)
			expectPick(t, "the fastest one has no room", l, 500, 100, true, -1, true)
			another := 0
			if i == 0 {
				another = 1
			}
			expectPick(t, "the fastest one has no room, many bytes", l, 50000, 100, false, another, false)
			expectPick(t, "the fastest one has no room, many bytes", l, 50000, 100, true, another, false)
		}
	}
	for _, l := range orders(list(full(10), full(60), full(70), free(100))) {
		expectPick(t, "only one that is worth it", l, 500, 100, false, -1, true)
	}
	for _, l := range orders(list(full(60), full(70), full(80), free(100))) {
		i := slices.Index(l, free(100))
		expectPick(t, "none that is worth it", l, 500, 100, false, i, false)
	}
}

// P18.2: a fastest choice that has room is picked also where the comparisons, with itself as F and as S, would wait: 4 * 12 * 10 < 5 * (10 + 100) and 12 * 10 >= 2 * 10 + 100.
func TestPickFastestUnsteady(t *testing.T) {
	x := up(1000, 0, 10, 100)
	for bytes := 9000; bytes <= 15000; bytes += 500 {
		expectPick(t, "alone", list(x), bytes, 100, true, 0, false)
		expectPick(t, "twice", list(x, x), bytes, 100, true, 0, false)
		for i, l := range [][]api.Choice{list(x, free(100), full(20)), list(full(20), x, free(100)), list(free(100), full(20), x)} {
			expectPick(t, "beside others", l, bytes, 100, true, i, false)
			expectPick(t, "beside others", l, bytes, 100, false, i, false)
		}
	}
}

// P18.2: the fastest choice that has room in each place, beside one without room that is not worth waiting for.
func TestPickFree(t *testing.T) {
	for _, l := range orders(list(full(60), free(70), free(80), free(90))) {
		i := slices.Index(l, free(70))
		expectPick(t, "three with room", l, 500, 100, false, i, false)
		expectPick(t, "three with room", l, 500, 100, true, i, false)
	}
	for _, l := range orders(list(full(60), full(61), free(70), full(200))) {
		i := slices.Index(l, free(70))
		expectPick(t, "one with room", l, 500, 100, false, i, false)
	}
	for _, l := range orders(list(free(60), full(61), full(62), full(63))) {
		i := slices.Index(l, free(60))
		expectPick(t, "only the fastest one has room", l, 500, 100, true, i, false)
	}
	for _, l := range orders(list(full(60), free(100), free(1000), free(10000))) {
		i := slices.Index(l, free(100))
		expectPick(t, "the slowest ones would wait", l, 500, 100, false, i, false)
	}
}

// P18.2: of choices with the same Srtt the first one counts.
func TestPickSame(t *testing.T) {
	for n := 1; n <= 4; n++ {
		for i := range n {
			l := append(slices.Repeat(list(full(80)), i), slices.Repeat(list(free(80)), n-i)...)
			expectPick(t, "the first ones have no room", l, 500, 100, false, i, false)
			l = append(slices.Repeat(list(free(90)), i), slices.Repeat(list(free(80)), n-i)...)
			expectPick(t, "the first ones are slower", l, 500, 100, false, i, false)
		}
	}
	expectPick(t, "the second one has no room", list(free(80), full(80)), 500, 100, true, 0, false)
	expectPick(t, "the first one has no room", list(full(80), free(80)), 500, 100, true, 1, false)

	wide, narrow := up(1000, 1000, 10, 0), up(100, 100, 10, 0) // 1 and 6 rounds of 500 bytes
	expectPick(t, "F is the wide one", list(wide, narrow, free(50)), 500, 100, false, -1, true)
	expectPick(t, "F is the wide one", list(wide, free(50), narrow), 500, 100, false, -1, true)
	expectPick(t, "F is the narrow one", list(narrow, wide, free(50)), 500, 100, false, 2, false)
	expectPick(t, "F is the narrow one", list(narrow, free(50), wide), 500, 100, false, 1, false)

	steady, shaky := up(1000, 0, 100, 0), up(1000, 0, 100, 1)
	expectPick(t, "S is the steady one", list(full(50), steady, shaky), 500, 100, false, -1, true)
	expectPick(t, "S is the steady one", list(steady, full(50), shaky), 500, 100, false, -1, true)
	expectPick(t, "S is the shaky one", list(full(50), shaky, steady), 500, 100, false, 1, false)
	expectPick(t, "S is the shaky one", list(shaky, steady, full(50)), 500, 100, false, 0, false)
}

// P18.2: one choice may be waited for beside another one with the same Srtt that has room, if the document's comparisons say so.
func TestPickSameWaiting(t *testing.T) {
	wide, narrow := up(1000, 1000, 80, 0), up(100, 0, 80, 0)
	expectPick(t, "4 * 80 is not less than 4 * 80", list(wide, narrow), 500, 100, false, 1, false)
	expectPick(t, "4 * 80 is less than 5 * 80", list(wide, narrow), 500, 100, true, -1, true)
	expectPick(t, "2 * 80 is not less than 2 * 80", list(wide, narrow), 199, 100, true, -1, true)
	expectPick(t, "1 * 80 is less than 2 * 80", list(wide, narrow), 99, 100, true, 1, false)
	expectPick(t, "the one that has room is the first one", list(narrow, wide), 500, 100, true, 0, false)
	wide.Var = 1
	expectPick(t, "4 * 80 is less than 4 * 81", list(wide, narrow), 500, 100, false, -1, true)
}

// P18.2: a choice that is not valid changes nothing, in each place, also where it has a smaller Srtt than all others.
func TestPickInvalid(t *testing.T) {
	for _, l := range [][]api.Choice{
		list(free(80)), list(full(80)), list(free(100), free(90)), list(full(10), free(100)), list(full(50), free(60), free(70)), list(free(70), full(20), full(80)),
	} {
		for _, x := range list(up(1000, 0, 1, 0), up(1000, 1000, 1, 0), up(widest, 0, 0, greatest), up(1, 1, 75, 0)) {
			for why, y := range invalid(x) {
				for place := range len(l) + 1 {
					for _, waits := range []bool{false, true} {
						want, waited := picked(l, 500, 100, waits)
						if want >= place {
							want++
						}
						expectPick(t, why, slices.Insert(slices.Clone(l), place, y), 500, 100, waits, want, waited)
					}
				}
			}
		}
	}
}

// expectBorder checks for the choices f, without room, and s, with room, whether f is waited for, in each order and with others that must not count.
func expectBorder(t *testing.T, why string, f, s api.Choice, bytes int, waits, waited bool) {
	t.Helper()
	for _, l := range [][]api.Choice{
		list(f, s), list(f, s, full(f.Srtt+1)), list(f, s, up(5, 0, s.Srtt+1, 0)), list(api.Choice{}, f, s),
		list(f, up(widest, widest, f.Srtt, greatest), s, up(widest, 0, s.Srtt, greatest)),
	} {
		i := slices.Index(l, s)
		if waited {
			i = -1
		}
		expectPick(t, why, l, bytes, 1, waits, i, waited)
	}
	if f.Srtt < s.Srtt {
		i := 0
		if waited {
			i = -1
		}
		expectPick(t, why+", in the other order", list(s, f), bytes, 1, waits, i, waited)
	}
}

// P18.2: 4 * N * Srtt of F near c * (Srtt of S + D).
func TestPickEarly(t *testing.T) {
	check := func(why string, n, srtt, slow, spread int, waits, waited bool) {
		t.Helper()
		f, s := up(1000, 1000, srtt, spread), up(1000, 0, slow, 0)
		expectBorder(t, why, f, s, 1000*(n-1), waits, waited)
	}
	check("2 * 49 is one below 98 + 1", 2, 49, 98, 1, false, true)
	check("2 * 49 is equal to 97 + 1", 2, 49, 97, 1, false, false)
	check("2 * 49 is one above 96 + 1", 2, 49, 96, 1, false, false)
	check("3 * 33 is one below 100", 3, 33, 100, 0, false, true)
	check("3 * 33 is equal to 99", 3, 33, 99, 0, false, false)
	check("3 * 33 is one above 98", 3, 33, 98, 0, false, false)
	check("10 * 100 is one below 501 + 500", 10, 100, 501, 500, false, true)
	check("10 * 100 is equal to 500 + 500", 10, 100, 500, 500, false, false)
	check("10 * 100 is one above 499 + 500", 10, 100, 499, 500, false, false)

	check("4 * 2 * 63 is one below 5 * 101", 2, 63, 101, 0, true, true)
	check("4 * 5 * 25 is equal to 5 * 100", 5, 25, 100, 0, true, false)
	check("4 * 3 * 43 is one above 5 * 103", 3, 43, 103, 0, true, false)
	check("4 * 2 * 63 is one below 5 * (91 + 10)", 2, 63, 91, 10, true, true)
	check("4 * 5 * 25 is equal to 5 * (90 + 10)", 5, 25, 90, 10, true, false)
	check("4 * 3 * 43 is one above 5 * (93 + 10)", 3, 43, 93, 10, true, false)

	check("between 4 * 100 and 5 * 100", 2, 50, 100, 0, false, false)
	check("between 4 * 100 and 5 * 100, waiting", 2, 50, 100, 0, true, true)
	check("between 4 * 100 and 5 * 100", 2, 62, 100, 0, false, false)
	check("between 4 * 100 and 5 * 100, waiting", 2, 62, 100, 0, true, true)
	check("above 5 * 100", 2, 63, 100, 0, false, false)
	check("above 5 * 100, waiting", 2, 63, 100, 0, true, false)
}

// P18.2: M * Srtt of S near 2 * Srtt of F + D.
func TestPickLate(t *testing.T) {
	check := func(why string, m, slow, srtt, spread int, waited bool) {
		t.Helper()
		f, s := up(widest, widest, srtt, spread), up(1000, 0, slow, 0)
		expectBorder(t, why, f, s, max(1, 1000*(m-1)), false, waited)
		expectBorder(t, why+", waiting", f, s, max(1, 1000*(m-1)), true, waited)
	}
	check("100 is one below 2 * 50 + 1", 1, 100, 50, 1, false)
	check("100 is equal to 2 * 50", 1, 100, 50, 0, true)
	check("100 is equal to 2 * 49 + 2", 1, 100, 49, 2, true)
	check("100 is one above 2 * 49 + 1", 1, 100, 49, 1, true)
	check("101 is one below 2 * 51", 1, 101, 51, 0, false)
	check("101 is equal to 2 * 50 + 1", 1, 101, 50, 1, true)
	check("101 is one above 2 * 50", 1, 101, 50, 0, true)
	check("3 * 33 is one below 2 * 30 + 40", 3, 33, 30, 40, false)
	check("3 * 33 is equal to 2 * 30 + 39", 3, 33, 30, 39, true)
	check("3 * 33 is one above 2 * 30 + 38", 3, 33, 30, 38, true)
	check("2 * 50 is one below 2 * 40 + 21", 2, 50, 40, 21, false)
	check("2 * 50 is equal to 2 * 40 + 20", 2, 50, 40, 20, true)
	check("2 * 50 is one above 2 * 40 + 19", 2, 50, 40, 19, true)
}

// P18.2: D is the greater Var of the two, in both comparisons; that of others does not count (expectBorder).
func TestPickSpread(t *testing.T) {
	check := func(cwnd, srtt, spread, slower int, waited bool) {
		t.Helper()
		f, s := up(cwnd, cwnd, srtt, spread), up(1000, 0, 100, slower)
		expectBorder(t, "D", f, s, 1000, false, waited)
	}
	// The bytes take two rounds of F, which is compared with 100 + D; 2 * 100 is always great enough.
	check(1000, 50, 0, 0, false)
	check(1000, 50, 1, 0, true)
	check(1000, 50, 0, 1, true)
	check(1000, 51, 2, 0, false)
	check(1000, 51, 0, 2, false)
	check(1000, 51, 2, 2, false)
	check(1000, 51, 2, 1, false)
	check(1000, 51, 1, 2, false)
	check(1000, 51, 3, 0, true)
	check(1000, 51, 0, 3, true)
	check(1000, 51, 3, 3, true)
	// They take one round of F; 2 * 100 is compared with 2 * 90 + D.
	check(widest, 90, 20, 0, true)
	check(widest, 90, 0, 20, true)
	check(widest, 90, 20, 20, true)
	check(widest, 90, 20, 19, true)
	check(widest, 90, 19, 20, true)
	check(widest, 90, 21, 0, false)
	check(widest, 90, 0, 21, false)
	check(widest, 90, 21, 21, false)
	check(widest, 90, 21, 20, false)
	check(widest, 90, 20, 21, false)
	check(widest, 90, greatest, 0, false)
	check(widest, 90, 0, greatest, false)
}

// P18.2: bytes near multiples of Cwnd of F, and of S.
func TestPickRounds(t *testing.T) {
	for _, cwnd := range []int{2, 3, 1000, 65535, widest - 1, widest} {
		for _, k := range []int{1, 2, 7, 1000} {
			bytes := cwnd * k
			// The limit is k + 1 rounds of F.
			f, s := up(cwnd, cwnd, 10, 0), up(1, 0, 10*(k+1), 0)
			expectBorder(t, "one below a multiple of F's", f, s, bytes-1, false, true)
			expectBorder(t, "a multiple of F's", f, s, bytes, false, false)
			expectBorder(t, "one above a multiple of F's", f, s, bytes+1, false, false)
			expectBorder(t, "one below the next multiple of F's", f, s, bytes+cwnd-1, false, false)
			s.Srtt++
			expectBorder(t, "a multiple of F's, one round later", f, s, bytes, false, true)
			expectBorder(t, "one below the next multiple of F's, one round later", f, s, bytes+cwnd-1, false, true)
			expectBorder(t, "the next multiple of F's, one round later", f, s, bytes+cwnd, false, false)
		}
		for _, k := range []int{1, 2, 7, 100} {
			bytes := cwnd * k
			// The limit is k + 1 rounds of S; the great Var keeps F early enough.
			f, s := up(widest, widest, 10, 1000*(k+1)-20), up(cwnd, 0, 1000, 0)
			expectBorder(t, "one below a multiple of S's", f, s, bytes-1, false, false)
			expectBorder(t, "a multiple of S's", f, s, bytes, false, true)
			expectBorder(t, "one above a multiple of S's", f, s, bytes+1, false, true)
			expectBorder(t, "one below the next multiple of S's", f, s, bytes+cwnd-1, false, true)
			f.Var++
			expectBorder(t, "one below the next multiple of S's, one round later", f, s, bytes+cwnd-1, false, false)
			expectBorder(t, "the next multiple of S's, one round later", f, s, bytes+cwnd, false, true)
		}
	}
	one := up(1, 1, 10, 0)
	expectBorder(t, "a window of one byte", one, up(1, 0, 21, 0), 1, false, true)
	expectBorder(t, "a window of one byte", one, up(1, 0, 20, 0), 1, false, false)
	expectBorder(t, "a window of one byte", one, up(1, 0, 31, 0), 2, false, true)
	expectBorder(t, "a window of one byte", one, up(1, 0, 30, 0), 2, false, false)
}

// P18.2: an Srtt of 0 for F, for S, and for both.
func TestPickZero(t *testing.T) {
	for _, waits := range []bool{false, true} {
		expectPick(t, "a single one", list(free(0)), 500, 100, waits, 0, false)
		expectBorder(t, "F", full(0), free(1), 500, waits, true)
		expectBorder(t, "F, many bytes", full(0), free(1), greatest, waits, true)
		expectBorder(t, "F, 10 is one below 0 + 11", up(1000, 1000, 0, 11), free(10), 500, waits, false)
		expectBorder(t, "F, 10 is equal to 0 + 10", up(1000, 1000, 0, 10), free(10), 500, waits, true)
		expectBorder(t, "F, 10 is one above 0 + 9", up(1000, 1000, 0, 9), free(10), 500, waits, true)
		expectPick(t, "S", list(full(1), free(0)), 500, 100, waits, 1, false)
		expectPick(t, "S", list(free(0), full(1)), 500, 100, waits, 0, false)
		expectBorder(t, "both", full(0), free(0), 500, waits, false)
		expectBorder(t, "both, with a Var", up(1000, 1000, 0, 1), up(1000, 0, 0, 1), 5000, waits, false)
		expectBorder(t, "both, with the greatest Var", up(1000, 1000, 0, 0), up(1000, 0, 0, greatest), 5000, waits, false)
		expectPick(t, "both with room", list(free(0), free(0)), 500, 100, waits, 0, false)
	}
}

// P18.2: the greatest values together: products far beyond 2^63, in each of the two comparisons.
func TestPickGreatest(t *testing.T) {
	for _, waits := range []bool{false, true} {
		f, s := up(1, 1, greatest, greatest), up(1, 0, greatest, greatest)
		expectBorder(t, "4 * (2^40 + 1) * 2^40 of F", f, s, greatest, waits, false)
		f.Srtt = greatest - 1
		expectBorder(t, "4 * (2^40 + 1) * (2^40 - 1) of F", f, s, greatest, waits, false)
		f.Srtt = 1
		expectBorder(t, "(2^40 + 1) * 2^40 of S", f, s, greatest, waits, true)
		f = up(widest, widest, 1, 0)
		expectBorder(t, "(2^40 + 1) * 2^40 of S, a wide F", f, s, greatest, waits, true)
		expectBorder(t, "(2^40 + 1) * 2^40 of S, the greatest D", up(widest, widest, 1<<20, greatest), s, greatest, waits, true)
		for bits := 20; bits <= 40; bits++ { // 4 * N * Srtt is 2^62, 2^63, 2^64 and so on, which an int does not hold
			f, s = up(1, 1, greatest, greatest), up(min(1<<(bits-2), widest), 0, greatest, greatest)
			expectBorder(t, "a power of two of F", f, s, 1<<bits-1, waits, false)
			f, s = up(widest, widest, 1<<10, 1<<10), up(1, 0, greatest, 1<<10)
			expectBorder(t, "a power of two of S", f, s, 1<<bits-1, waits, true)
		}
	}
}

// P18.2: just at the border with the greatest values.
func TestPickGreatestBorder(t *testing.T) {
	s := up(1, 0, greatest, greatest)
	for _, c := range []struct {
		srtt, bytes   int
		waits, waited bool
	}{
		{1<<31 - 1, greatest - 1, false, true}, // 1024 * 2^31 is 2^40 + 2^40
		{1 << 31, greatest - 1, false, false},
		{1<<31 + 1, greatest - 1, false, false},
		{5<<29 - 1, greatest - 1, true, true}, // 4 * 1024 * 5 * 2^29 is 5 * (2^40 + 2^40)
		{5 << 29, greatest - 1, true, false},
		{5<<29 + 1, greatest - 1, true, false},
		{(1<<41 - 2) / 1025, greatest, false, true}, // 1025 times that is 2^41 - 2
		{(1<<41-2)/1025 + 1, greatest, false, false},
	} {
		expectBorder(t, "a wide F", up(widest, widest, c.srtt, greatest), s, c.bytes, c.waits, c.waited)
	}
	f := up(widest, widest, (1<<41-2)/1025, greatest-2)
	expectBorder(t, "1025 * Srtt of F is equal to 2^41 - 2", f, up(1, 0, greatest, 0), greatest, false, false)
	f.Var++
	expectBorder(t, "1025 * Srtt of F is one below 2^41 - 1", f, up(1, 0, greatest, 0), greatest, false, true)

	narrow := up(1, 1, 1, 0) // 2^40 + 1 rounds of 1
	expectBorder(t, "one above 2^40", narrow, up(1, 0, greatest, 0), greatest, false, false)
	expectBorder(t, "equal to 2^40 + 1", narrow, up(1, 0, greatest, 1), greatest, false, false)
	expectBorder(t, "one below 2^40 + 2", narrow, up(1, 0, greatest, 2), greatest, false, true)

	slow := up(1, 0, 1, 0) // 2^40 + 1 rounds of 1
	expectBorder(t, "one below 2^40 + 2", up(widest, widest, 1, greatest), slow, greatest, false, false)
	expectBorder(t, "equal to 2^40 + 1", up(widest, widest, 1, greatest-1), slow, greatest, false, true)
	expectBorder(t, "one above 2^40", up(widest, widest, 0, greatest), slow, greatest, false, true)

	last := up(widest, 0, greatest, 0)
	expectBorder(t, "2^40 is one below 2 * (2^39 - 1) + 3", up(widest, widest, 1<<39-1, 3), last, 1, false, false)
	expectBorder(t, "2^40 is equal to 2 * (2^39 - 1) + 2", up(widest, widest, 1<<39-1, 2), last, 1, false, true)
	expectBorder(t, "2^40 is one above 2 * (2^39 - 1) + 1", up(widest, widest, 1<<39-1, 1), last, 1, false, true)
	last.Cwnd = 1
	expectBorder(t, "3 * 2^40 is equal to 2 * 2^40 + 2^40", up(widest, widest, greatest, greatest), last, 2, false, true)
	expectBorder(t, "2 * 2^40 is less than 2 * 2^40 + 2^40", up(widest, widest, greatest, greatest), last, 1, false, false)
}

// P18.2, P18.3: all pairs of small choices, by the definition.
func TestPickSmall(t *testing.T) {
	var all []api.Choice
	for _, cwnd := range []int{1, 2, 3} {
		for flight := range 3 {
			for srtt := range 4 {
				for spread := range 3 {
					all = append(all, up(cwnd, flight, srtt, spread))
				}
			}
		}
	}
	waiting := 0
	for _, x := range all {
		for _, y := range all {
			l := list(x, y)
			for _, bytes := range []int{1, 2, 3, 5} {
				for mss := range 3 {
					expectDefined(t, "small", l, bytes, mss, false)
					expectDefined(t, "small", l, bytes, mss, true)
					if _, waited := ecf.Pick(l, bytes, mss, true); waited {
						waiting++
					}
				}
			}
		}
	}
	if waiting < 1000 {
		t.Errorf("waiting %d times only", waiting)
	}
}

// P18.2, P18.3: rolled lists of up to five choices with numbers of all sizes, at most some of which are not valid, by the definition.
func TestPickRolled(t *testing.T) {
	waiting := 0
	for seed := range 100000 {
		roll := dice(seed)
		sizes := []int{2, 10, 1000, 1 << 20, greatest + 1}
		size := sizes[roll(len(sizes))]
		l := make([]api.Choice, roll(6))
		for i := range l {
			cwnd := 1 + roll(min(size, widest))
			l[i] = up(cwnd, roll(cwnd+cwnd/4+1), roll(size), roll(size)>>roll(20))
			l[i].Up = roll(8) > 0
			if i > 0 && roll(4) == 0 {
				l[i].Srtt = l[i-1].Srtt
			}
			if roll(16) == 0 {
				l[i].Cwnd = []int{0, widest, widest + 1}[roll(3)]
			}
			if roll(16) == 0 {
				l[i].Srtt = []int{-1, greatest, greatest + 1}[roll(3)]
			}
		}
		bytes, mss := 1+roll(size), 1+roll(min(size, segment))
		for _, waits := range []bool{false, true} {
			expectDefined(t, "rolled", l, bytes, mss, waits)
		}
		if _, waited := ecf.Pick(l, bytes, mss, false); waited {
			waiting++
		}
	}
	if waiting < 1000 {
		t.Errorf("waiting %d times only", waiting)
	}
}

// R3: neither the list nor what lies behind it is modified.
func TestPickKept(t *testing.T) {
	whole := list(free(100), full(10), free(50), free(5), full(1), free(1))
	before := slices.Clone(whole)
	for n := range len(whole) + 1 {
		for _, waits := range []bool{false, true} {
			ecf.Pick(whole[:n], 500, 100, waits)
			ecf.Pick(whole[:n], 0, 100, waits)
			ecf.Pick(whole[:n], 500, 0, waits)
		}
	}
	if !slices.Equal(whole, before) {
		t.Errorf("%+v instead of %+v", whole, before)
	}
}

// R5: nothing is kept from one call to the next one; what was decided the last time is known by waits only.
func TestCallsAgain(t *testing.T) {
	l := list(full(10), free(100))
	for range 20 {
		expectPick(t, "again", l, 500, 100, false, -1, true)
		expectPick(t, "again", l, 10000, 100, false, 1, false)
		expectPick(t, "again", l, 10000, 100, true, -1, true)
		expectPick(t, "again", l, 12000, 100, true, 1, false)
		expectPick(t, "again", l, 0, 100, true, -1, false)
		expectMay(t, "again", full(10), true)
		expectRoom(t, "again", full(10), 100, false)
		expectRoom(t, "again", free(10), 100, true)
	}
}
