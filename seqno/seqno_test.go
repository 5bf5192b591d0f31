package seqno_test

import (
	"math"
	"math/big"
	"testing"

	"fourinhand/api"
	"fourinhand/seqno"
)

const (
	turn  = 1 << 32
	half  = turn / 2
	limit = api.Range
)

// numbers are ordinary numbers, those around the multiples of half a turn, and those around the edges of what is in range and of int.
func numbers() []int {
	l := []int{42, 1000, 987654321, 123456789012345678, -1000, -987654321, -123456789012345678}
	for _, n := range []int{
		0, half, turn, turn + half, 2 * turn, 5 * turn, 1000*turn + half, limit - turn, limit - half, limit, limit + half, limit + turn,
		-half, -turn, -turn - half, -limit, -limit - turn,
	} {
		for away := -3; away <= 3; away++ {
			l = append(l, n+away)
		}
	}
	return append(l, math.MaxInt-1, math.MaxInt, math.MinInt, math.MinInt+1)
}

// lows are ordinary low bits, and those around 0 and half a turn.
func lows() []uint32 {
	return []uint32{
		0, 1, 2, 3, 5, 42, 1000, 987654321, half - 3, half - 2, half - 1, half, half + 1, half + 2, half + 3,
		3000000000, turn - 1000, turn - 3, turn - 2, turn - 1,
	}
}

// modulo is n modulo 2^32, from 0 on.
func modulo(n int) int {
	return int(new(big.Int).Mod(big.NewInt(int64(n)), big.NewInt(turn)).Int64())
}

// P2.1: Low.
func TestLow(t *testing.T) {
	for _, c := range []struct {
		n    int
		want uint32
	}{
		{0, 0}, {5, 5}, {turn - 1, turn - 1}, {turn, 0}, {turn + 3, 3}, {half, half}, {7*turn + 9, 9},
		{-1, turn - 1}, {-5, turn - 5}, {-half, half}, {-turn + 1, 1}, {-turn, 0}, {-turn - 1, turn - 1},
		{limit, 0}, {limit + 3, 3}, {-limit - 3, turn - 3}, {math.MaxInt, turn - 1}, {math.MinInt, 0}, {math.MinInt + 1, 1},
	} {
		if low := seqno.Low(c.n); low != c.want {
			t.Errorf("Low of %d: %d instead of %d", c.n, low, c.want)
		}
	}
	for _, n := range numbers() {
		if low := seqno.Low(n); int(low) != modulo(n) {
			t.Errorf("Low of %d: %d instead of %d", n, low, modulo(n))
		}
	}
}

// P2.1: Less and Upto, on the edges of half a turn and over a wrap-around.
func TestLessUpto(t *testing.T) {
	for _, c := range []struct {
		a, b uint32
		less bool
		upto int
	}{
		{0, 0, false, 0}, {7, 7, false, 0}, {turn - 1, turn - 1, false, 0},
		{1, 2, true, 1}, {2, 1, false, turn - 1}, {100, 350, true, 250}, {350, 100, false, turn - 250},
		{turn - 1, 0, true, 1}, {0, turn - 1, false, turn - 1}, {turn - 10, 20, true, 30}, {20, turn - 10, false, turn - 30},
		{0, half - 1, true, half - 1}, {half - 1, 0, false, half + 1}, {9, half + 8, true, half - 1}, {half + 2, 1, true, half - 1},
		{0, half, false, half}, {half, 0, false, half}, {3, half + 3, false, half}, {half + 3, 3, false, half}, {turn - 1, half - 1, false, half},
		{0, half + 1, false, half + 1}, {half + 1, 0, true, half - 1},
	} {
		if less := seqno.Less(c.a, c.b); less != c.less {
			t.Errorf("Less of %d and %d: %t", c.a, c.b, less)
		}
		if upto := seqno.Upto(c.a, c.b); upto != c.upto {
			t.Errorf("Upto of %d and %d: %d instead of %d", c.a, c.b, upto, c.upto)
		}
	}
	for _, a := range lows() {
		for _, b := range lows() {
			way := modulo(int(b) - int(a))
			if upto := seqno.Upto(a, b); upto != way {
				t.Errorf("Upto of %d and %d: %d instead of %d", a, b, upto, way)
			}
			if less := seqno.Less(a, b); less != (1 <= way && way <= half-1) {
				t.Errorf("Less of %d and %d, %d apart: %t", a, b, way, less)
			}
		}
	}
}

// P2.2: Unwrap, on cases that were worked out by hand.
func TestUnwrap(t *testing.T) {
	for _, c := range []struct {
		near int
		low  uint32
		want int
		why  string
	}{
		{turn, 5, turn + 5, "the document's example"},
		{3, 5, 5, "the document's other example"},
		{0, 0, 0, "nothing to do"},
		{7*turn + 1000, 1300, 7*turn + 1300, "an ordinary number above near"},
		{7*turn + 1000, 700, 7*turn + 700, "an ordinary number below near"},
		{turn - 1, 2, turn + 2, "after a wrap-around, near before it"},
		{turn + 1, turn - 2, turn - 2, "before a wrap-around, near after it"},
		{9*turn - 4, 0, 9 * turn, "just on a wrap-around, near before it"},
		{9 * turn, turn - 1, 9*turn - 1, "just before a wrap-around, near on it"},
		{half, 0, 0, "2^31 above near and below it"},
		{turn, half, half, "2^31 above near and below it, again"},
		{3*turn + half + 8, 8, 3*turn + 8, "2^31 above near and below it, further up"},
		{3*turn + 8, half + 8, 2*turn + half + 8, "2^31 above near and below it, over a wrap-around"},
		{half + 1, 0, turn, "less than 2^31 above near"},
		{half - 1, 0, 0, "less than 2^31 below near"},
		{turn, half + 1, half + 1, "less than 2^31 below near, over a wrap-around"},
		{turn, half - 1, turn + half - 1, "less than 2^31 above near, at a wrap-around"},
		{0, half, half, "2^31 above near, but nothing from 0 on below it"},
		{0, turn - 1, turn - 1, "the nearest one would be -1"},
		{0, half + 1, half + 1, "the nearest one would be below 0"},
		{half - 1, turn - 1, turn - 1, "as near as -1 would be"},
		{100, turn - 100, turn - 100, "the nearest one would be -100"},
		{-5, 7, 7, "a negative near"},
		{-1, turn - 1, turn - 1, "a negative near that is itself of that Low"},
		{-turn, 0, 0, "a negative near, a turn below 0"},
		{-limit, half, half, "a near of -2^62"},
		{math.MinInt, turn - 1, turn - 1, "the smallest near"},
		{limit, 3, limit + 3, "a near of 2^62"},
		{limit, half, limit - half, "a near of 2^62, 2^31 above it and below it"},
		{limit, half - 1, limit + half - 1, "the greatest result"},
		{limit, turn - 1, limit - 1, "a near of 2^62, below it"},
		{limit + 1, half, limit - half, "a near above 2^62, which counts as 2^62"},
		{limit + turn, 3, limit + 3, "a near a turn above 2^62"},
		{limit + 9*turn + 8, turn - 8, limit - 8, "a near many turns above 2^62"},
		{math.MaxInt, half - 1, limit + half - 1, "the greatest near"},
		{math.MaxInt, turn - 1, limit - 1, "the greatest near, below 2^62"},
	} {
		if n := seqno.Unwrap(c.near, c.low); n != c.want {
			t.Errorf("Unwrap of %d near %d (%s): %d instead of %d", c.low, c.near, c.why, n, c.want)
		}
	}
}

// distance is how far the one number is from the other one.
func distance(a, b int) int { return max(a, b) - min(a, b) }

// P2.2: what Unwrap returns is from 0 on, is of that Low, and is nearer than the numbers of that Low next to it.
func TestUnwrapNearest(t *testing.T) {
	for _, near := range numbers() {
		counted := min(max(near, 0), limit)
		for _, low := range lows() {
			n := seqno.Unwrap(near, low)
			if n < 0 || n > limit+turn || modulo(n) != int(low) {
				t.Errorf("Unwrap of %d near %d: %d", low, near, n)
				continue
			}
			if below := n - turn; below >= 0 && distance(below, counted) <= distance(n, counted) {
				t.Errorf("Unwrap of %d near %d: %d, though %d is as near or nearer", low, near, n, below)
			}
			if above := n + turn; distance(above, counted) < distance(n, counted) {
				t.Errorf("Unwrap of %d near %d: %d, though %d is nearer", low, near, n, above)
			}
		}
	}
}

// P2.3: a number that differs from near by less than 2^31 is restored from its Low; one that differs by more is not.
func TestRestored(t *testing.T) {
	for _, near := range numbers() {
		if near < 0 || near > limit {
			continue
		}
		for _, way := range []int{0, 1, 2, 1000, 987654321, half - 2, half - 1} {
			for _, n := range []int{near + way, near - way} {
				if n < 0 {
					continue
				}
				if got := seqno.Unwrap(near, seqno.Low(n)); got != n {
					t.Errorf("%d near %d: %d", n, near, got)
				}
			}
		}
		for _, n := range []int{near + half + 1, near - half - 1} {
			if got := seqno.Unwrap(near, seqno.Low(n)); near > half && got == n {
				t.Errorf("%d near %d is restored, though a nearer number is of the same Low", n, near)
			}
		}
	}
}

// P2.3: Less holds in exactly one direction for two numbers, in none if they are equal or 2^31 apart.
func TestLessOneDirection(t *testing.T) {
	for _, a := range lows() {
		for _, b := range lows() {
			one := a != b && a-b != half
			if seqno.Less(a, b) && seqno.Less(b, a) {
				t.Errorf("%d and %d: Less in both directions", a, b)
			}
			if (seqno.Less(a, b) || seqno.Less(b, a)) != one {
				t.Errorf("%d and %d: Less in a direction is not %t", a, b, one)
			}
		}
	}
}
