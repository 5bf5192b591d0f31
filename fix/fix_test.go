package fix_test

import (
	"math"
	"math/big"
	"testing"

	"fourinhand/api"
	"fourinhand/fix"
)

const limit = api.Range

// numbers are ordinary numbers, the edges of what is in range and what lies beyond them.
func numbers() []int {
	l := []int{0}
	for _, n := range []int{
		1, 2, 3, 5, 7, 10, 1000, 65535, 987654321, 1<<31 - 1, 1 << 31, 1<<31 + 1, 1<<32 - 1, 1 << 32, 123456789012345678,
		limit/2 - 1, limit / 2, limit/2 + 1, limit - 1, limit, limit + 1, limit + limit/2, math.MaxInt - 1, math.MaxInt,
	} {
		l = append(l, n, -n)
	}
	return append(l, math.MinInt)
}

func number(n int) *big.Int { return big.NewInt(int64(n)) }

func inRange(n *big.Int) bool { return n.CmpAbs(number(limit)) <= 0 }

// divided is a / b, rounded down, or nil for a b less than 1. (Div of big rounds down for a positive divisor.)
func divided(a, b *big.Int) *big.Int {
	if b.Sign() < 1 {
		return nil
	}
	return new(big.Int).Div(a, b)
}

// expect compares a result with the exact one, which is nil if there is none; arguments are those that must be in range.
func expect(t *testing.T, call string, got int, ok bool, exact *big.Int, arguments ...int) {
	t.Helper()
	valid := exact != nil && inRange(exact)
	for _, a := range arguments {
		valid = valid && inRange(number(a))
	}
	if !valid {
		exact = new(big.Int)
	}
	if ok != valid || number(got).Cmp(exact) != 0 {
		t.Errorf("%s of %d: %d %t instead of %d %t", call, arguments, got, ok, exact, valid)
	}
}

type result struct {
	n  int
	ok bool
}

func of(n int, ok bool) result { return result{n, ok} }

func same(t *testing.T, call string, got, want result) {
	t.Helper()
	if got != want {
		t.Errorf("%s: %v instead of %v", call, got, want)
	}
}

// P1.1: In.
func TestIn(t *testing.T) {
	for _, n := range []int{0, 1, -1, limit - 1, limit, -limit + 1, -limit} {
		if !fix.In(n) {
			t.Errorf("%d is in range", n)
		}
	}
	for _, n := range []int{limit + 1, -limit - 1, math.MaxInt, math.MinInt} {
		if fix.In(n) {
			t.Errorf("%d is not in range", n)
		}
	}
}

// P1.1: Add, Mul and Div.
func TestAddMulDiv(t *testing.T) {
	same(t, "2 + 3", of(fix.Add(2, 3)), result{5, true})
	same(t, "2 + -3", of(fix.Add(2, -3)), result{-1, true})
	same(t, "a sum of exactly 2^62", of(fix.Add(limit-1, 1)), result{limit, true})
	same(t, "a sum of exactly -2^62", of(fix.Add(1-limit, -1)), result{-limit, true})
	same(t, "a sum that is too great", of(fix.Add(limit, 1)), result{})
	same(t, "a sum that is too small", of(fix.Add(-limit, -1)), result{})
	same(t, "a sum that overflows", of(fix.Add(limit, limit)), result{})
	same(t, "a sum of -2^63", of(fix.Add(-limit, -limit)), result{})
	same(t, "a sum with an addend that is not in range", of(fix.Add(limit+1, -1)), result{})

	same(t, "6 * 7", of(fix.Mul(6, 7)), result{42, true})
	same(t, "6 * -7", of(fix.Mul(6, -7)), result{-42, true})
	same(t, "-6 * -7", of(fix.Mul(-6, -7)), result{42, true})
	same(t, "a product of exactly 2^62", of(fix.Mul(1<<31, 1<<31)), result{limit, true})
	same(t, "a product of exactly -2^62", of(fix.Mul(1<<31, -1<<31)), result{-limit, true})
	same(t, "a product just beyond 2^62", of(fix.Mul(1<<31, 1<<31+1)), result{})
	same(t, "a product of 2^64", of(fix.Mul(1<<32, 1<<32)), result{})
	same(t, "a product with a factor that is not in range", of(fix.Mul(0, limit+1)), result{})

	same(t, "7 / 2", of(fix.Div(7, 2)), result{3, true})
	same(t, "-7 / 2", of(fix.Div(-7, 2)), result{-4, true})
	same(t, "-8 / 2", of(fix.Div(-8, 2)), result{-4, true})
	same(t, "-1 / 2^62", of(fix.Div(-1, limit)), result{-1, true})
	same(t, "7 / 0", of(fix.Div(7, 0)), result{})
	same(t, "7 / -2", of(fix.Div(7, -2)), result{})
	same(t, "a quotient of a number that is not in range", of(fix.Div(limit+1, 2)), result{})
	same(t, "a divisor that is not in range", of(fix.Div(0, limit+1)), result{})

	for _, a := range numbers() {
		for _, b := range numbers() {
			n, ok := fix.Add(a, b)
			expect(t, "Add", n, ok, new(big.Int).Add(number(a), number(b)), a, b)
			n, ok = fix.Mul(a, b)
			expect(t, "Mul", n, ok, new(big.Int).Mul(number(a), number(b)), a, b)
			n, ok = fix.Div(a, b)
			expect(t, "Div", n, ok, divided(number(a), number(b)), a, b)
		}
	}
}

// P1.1: MulDiv.
func TestMulDiv(t *testing.T) {
	same(t, "2^61 * 6 / 4", of(fix.MulDiv(1<<61, 6, 4)), result{3 << 60, true})
	same(t, "-7 * 1 / 2", of(fix.MulDiv(-7, 1, 2)), result{-4, true})
	same(t, "7 * -1 / 2", of(fix.MulDiv(7, -1, 2)), result{-4, true})
	same(t, "-7 * -1 / 2", of(fix.MulDiv(-7, -1, 2)), result{3, true})
	same(t, "-8 * 3 / 4", of(fix.MulDiv(-8, 3, 4)), result{-6, true})
	same(t, "0 * -7 / 2", of(fix.MulDiv(0, -7, 2)), result{0, true})
	same(t, "the greatest product", of(fix.MulDiv(limit, limit, limit)), result{limit, true})
	same(t, "the smallest product", of(fix.MulDiv(-limit, limit, limit)), result{-limit, true})
	same(t, "a quotient just beyond 2^62", of(fix.MulDiv(limit, limit, limit-1)), result{})
	same(t, "a quotient just beyond -2^62", of(fix.MulDiv(-limit, limit, limit-1)), result{})
	// 2^63 + 1 rounds down to 2^62 when it is halved, and -2^63 - 1 to -2^62 - 1.
	same(t, "a quotient that is rounded to 2^62", of(fix.MulDiv(3, (1<<63+1)/3, 2)), result{limit, true})
	same(t, "a quotient that is rounded beyond -2^62", of(fix.MulDiv(-3, (1<<63+1)/3, 2)), result{})
	// The factors' product is 2^65 - 1: half of that is 2^64 when it is rounded away from 0, which must not wrap round.
	same(t, "a quotient of nearly -2^64", of(fix.MulDiv(-31*8191, 145295143558111, 2)), result{})
	same(t, "a quotient of 2^64", of(fix.MulDiv(limit, 4, 1)), result{})
	same(t, "a quotient of 2^124", of(fix.MulDiv(limit, limit, 1)), result{})
	same(t, "1 * 1 / 0", of(fix.MulDiv(1, 1, 0)), result{})
	same(t, "0 * 0 / 0", of(fix.MulDiv(0, 0, 0)), result{})
	same(t, "4 * 4 / -2", of(fix.MulDiv(4, 4, -2)), result{})
	same(t, "a factor that is not in range", of(fix.MulDiv(limit+1, 0, 1)), result{})
	same(t, "another factor that is not in range", of(fix.MulDiv(0, -limit-1, 1)), result{})
	same(t, "a divisor that is not in range", of(fix.MulDiv(0, 0, limit+1)), result{})

	for _, a := range numbers() {
		for _, b := range numbers() {
			for _, c := range numbers() {
				n, ok := fix.MulDiv(a, b, c)
				product := new(big.Int).Mul(number(a), number(b))
				expect(t, "MulDiv", n, ok, divided(product, number(c)), a, b, c)
			}
		}
	}
}

// P1.2: Sqrt.
func TestSqrt(t *testing.T) {
	for n := range 10000 {
		r, ok := fix.Sqrt(n)
		if !ok || r*r > n || (r+1)*(r+1) <= n {
			t.Errorf("Sqrt of %d: %d %t", n, r, ok)
		}
	}
	for _, r := range []int{1, 2, 3, 1000, 46341, 1<<30 - 1, 1 << 30, 1<<31 - 1, 1 << 31} {
		same(t, "a square", of(fix.Sqrt(r*r)), result{r, true})
		same(t, "one less than a square", of(fix.Sqrt(r*r-1)), result{r - 1, true})
	}
	same(t, "-1", of(fix.Sqrt(-1)), result{})
	same(t, "-4", of(fix.Sqrt(-4)), result{})
	same(t, "-2^62", of(fix.Sqrt(-limit)), result{})

	for _, n := range numbers() {
		var exact *big.Int
		if n >= 0 {
			exact = new(big.Int).Sqrt(number(n))
		}
		r, ok := fix.Sqrt(n)
		expect(t, "Sqrt", r, ok, exact, n)
	}
}

// average is what Ewma must return, nil if that is nothing, whatever its result is.
func average(old, sample, shift int) *big.Int {
	way := new(big.Int).Sub(number(sample), number(old))
	if shift < 0 || shift > 30 || !inRange(way) {
		return nil
	}
	part := divided(way, new(big.Int).Lsh(number(1), uint(shift)))
	return part.Add(part, number(old))
}

func shifts() []int {
	return []int{0, 1, 2, 3, 15, 29, 30, 31, 32, 62, 63, 64, 1 << 32, -1, -30, limit + 1, math.MaxInt, math.MinInt}
}

// P1.2: Ewma.
func TestEwma(t *testing.T) {
	same(t, "8 to 16", of(fix.Ewma(8, 16, 3)), result{9, true})
	same(t, "16 to 8", of(fix.Ewma(16, 8, 3)), result{15, true})
	same(t, "0 to 7", of(fix.Ewma(0, 7, 3)), result{0, true})
	same(t, "0 to -1", of(fix.Ewma(0, -1, 3)), result{-1, true})
	same(t, "0 to -9", of(fix.Ewma(0, -9, 3)), result{-2, true})
	same(t, "shift 0", of(fix.Ewma(5, 9, 0)), result{9, true})
	same(t, "shift 30", of(fix.Ewma(0, 1<<31, 30)), result{2, true})
	same(t, "shift 31", of(fix.Ewma(0, 1<<31, 31)), result{})
	same(t, "shift -1", of(fix.Ewma(5, 9, -1)), result{})
	same(t, "a way of exactly 2^62", of(fix.Ewma(-1, limit-1, 0)), result{limit - 1, true})
	same(t, "a way of exactly -2^62", of(fix.Ewma(1, 1-limit, 0)), result{1 - limit, true})
	same(t, "a way that is too great", of(fix.Ewma(-1, limit, 3)), result{})
	same(t, "a way that is too small", of(fix.Ewma(1, -limit, 3)), result{})
	same(t, "a way of 2^63", of(fix.Ewma(-limit, limit, 3)), result{})
	same(t, "a way of -2^63", of(fix.Ewma(limit, -limit, 3)), result{})
	same(t, "old is not in range", of(fix.Ewma(limit+1, limit, 3)), result{})
	same(t, "sample is not in range", of(fix.Ewma(limit, limit+1, 3)), result{})

	for _, old := range numbers() {
		for _, sample := range numbers() {
			for _, shift := range shifts() {
				n, ok := fix.Ewma(old, sample, shift)
				expect(t, "Ewma", n, ok, average(old, sample, shift), old, sample)
			}
		}
	}
}

// P1.3: Clamp.
func TestClamp(t *testing.T) {
	for _, c := range [][4]int{
		{2, 1, 3, 2}, {0, 1, 3, 1}, {1, 1, 3, 1}, {3, 1, 3, 3}, {5, 1, 3, 3}, {-5, -3, -1, -3}, {9, 4, 4, 4},
		{2, 5, 3, 5}, {4, 5, 3, 5}, {9, 5, 3, 5}, // low above high
		{math.MaxInt, math.MinInt, math.MaxInt, math.MaxInt}, {math.MinInt, math.MinInt, math.MaxInt, math.MinInt},
		{limit + 5, limit + 1, limit + 9, limit + 5}, {math.MaxInt, 0, limit + 1, limit + 1}, {math.MinInt, -limit - 1, 0, -limit - 1},
		{0, math.MaxInt, math.MinInt, math.MaxInt},
	} {
		if n := fix.Clamp(c[0], c[1], c[2]); n != c[3] {
			t.Errorf("Clamp of %d: %d instead of %d", c[:3], n, c[3])
		}
	}
	for _, n := range numbers() {
		for _, low := range numbers() {
			for _, high := range numbers() {
				want := n
				if n > high {
					want = high
				}
				if n < low || high < low {
					want = low
				}
				if got := fix.Clamp(n, low, high); got != want {
					t.Errorf("Clamp of %d %d %d: %d instead of %d", n, low, high, got, want)
				}
			}
		}
	}
}

// P1.4: a product and a quotient are cases of MulDiv.
func TestMulDivByOne(t *testing.T) {
	for _, a := range numbers() {
		for _, b := range numbers() {
			same(t, "MulDiv(a, b, 1)", of(fix.MulDiv(a, b, 1)), of(fix.Mul(a, b)))
			same(t, "MulDiv(a, 1, b)", of(fix.MulDiv(a, 1, b)), of(fix.Div(a, b)))
		}
	}
}

// P1.4: results are in range, and those that there are not are 0.
func TestResultsInRange(t *testing.T) {
	check := func(n int, ok bool) {
		t.Helper()
		if !fix.In(n) || !ok && n != 0 {
			t.Errorf("%d %t", n, ok)
		}
	}
	for _, a := range numbers() {
		check(fix.Sqrt(a))
		for _, b := range numbers() {
			check(fix.Add(a, b))
			check(fix.Mul(a, b))
			check(fix.Div(a, b))
			for _, c := range numbers() {
				check(fix.MulDiv(a, b, c))
			}
			for _, shift := range shifts() {
				check(fix.Ewma(a, b, shift))
			}
		}
	}
}

// P1.4: Ewma lies between old and sample.
func TestEwmaBetween(t *testing.T) {
	for _, old := range numbers() {
		for _, sample := range numbers() {
			for shift := range 31 {
				n, ok := fix.Ewma(old, sample, shift)
				if ok && (n < min(old, sample) || n > max(old, sample)) {
					t.Errorf("Ewma of %d %d %d: %d", old, sample, shift, n)
				}
			}
		}
	}
}
