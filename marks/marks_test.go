package marks_test

import (
	"math"
	"math/big"
	"testing"

	"fourinhand/api"
	"fourinhand/marks"
)

const (
	last = 1 << 60 // the greatest Packets, Bytes and Came
	most = 1 << 40 // how many packets, and bytes, can be acknowledged at once
	turn = 1 << 24 // modulo what Bytes is transmitted
)

// counts are numbers that Packets, Bytes and Came may be, and numbers that they may not be.
func counts() []int {
	return []int{math.MinInt, -1, 0, 1, last - 1, last, last + 1, math.MaxInt}
}

// isValid reports whether the document calls m valid.
func isValid(m api.Marks) bool {
	for _, n := range []int{m.Packets, m.Bytes, m.Came} {
		if n < 0 || n > last {
			return false
		}
	}
	return m.Marked >= 0 && m.Marked <= m.Came && m.Part >= 0 && m.Part <= 1024
}

// valid returns valid marks, among them those with the smallest and the greatest value of each field.
func valid() []api.Marks {
	return []api.Marks{
		{}, {Packets: 1}, {Packets: last}, {Bytes: 1}, {Bytes: last}, {Came: 1}, {Came: last}, {Part: 1}, {Part: 1023}, {Part: 1024},
		{Came: 1, Marked: 1}, {Came: 100, Marked: 50}, {Came: 100, Marked: 99}, {Came: 100, Marked: 100}, {Came: last, Marked: 1}, {Came: last, Marked: last},
		{Packets: 6, Bytes: 100, Came: 3, Marked: 1, Part: 77}, {Packets: 7, Bytes: turn - 1, Came: 3, Marked: 2, Part: 341},
		{Packets: 8, Bytes: turn, Came: 5000, Marked: 4999, Part: 1000}, {Packets: 9, Bytes: turn + 1, Came: 5000, Part: 15},
		{Packets: last - 1, Bytes: last - 1, Came: last - 1, Marked: last - 1, Part: 1023}, {Packets: last, Bytes: last, Came: last, Marked: last, Part: 1024},
		{Packets: 123456789, Bytes: 987654321, Came: 1<<53 + 1, Marked: 1<<52 + 3, Part: 512}, {Packets: last - 8, Bytes: last - turn, Came: last - most, Part: 16},
	}
}

// invalid returns marks that are not valid, and why they are that.
func invalid() map[string]api.Marks {
	return map[string]api.Marks{
		"a negative Packets":               {Packets: -1, Bytes: 100, Came: 50, Marked: 20, Part: 3},
		"the least Packets":                {Packets: math.MinInt, Bytes: 100, Came: 50, Marked: 20, Part: 3},
		"a Packets above 2^60":             {Packets: last + 1, Bytes: 100, Came: 50, Marked: 20, Part: 3},
		"the greatest Packets":             {Packets: math.MaxInt, Bytes: 100, Came: 50, Marked: 20, Part: 3},
		"a negative Bytes":                 {Packets: 6, Bytes: -1, Came: 50, Marked: 20, Part: 3},
		"the least Bytes":                  {Packets: 6, Bytes: math.MinInt, Came: 50, Marked: 20, Part: 3},
		"a Bytes above 2^60":               {Packets: 6, Bytes: last + 1, Came: 50, Marked: 20, Part: 3},
		"the greatest Bytes":               {Packets: 6, Bytes: math.MaxInt, Came: 50, Marked: 20, Part: 3},
		"a negative Came":                  {Packets: 6, Bytes: 100, Came: -1, Part: 3},
		"a negative Came and Marked":       {Packets: 6, Bytes: 100, Came: -1, Marked: -1, Part: 3},
		"a Marked of 0 and a Came of -5":   {Came: -5},
		"the least Came":                   {Packets: 6, Bytes: 100, Came: math.MinInt, Part: 3},
		"the least Came and Marked":        {Packets: 6, Bytes: 100, Came: math.MinInt, Marked: math.MinInt, Part: 3},
		"a Came above 2^60":                {Packets: 6, Bytes: 100, Came: last + 1, Marked: 20, Part: 3},
		"a Came and a Marked above 2^60":   {Packets: 6, Bytes: 100, Came: last + 1, Marked: last + 1, Part: 3},
		"the greatest Came":                {Packets: 6, Bytes: 100, Came: math.MaxInt, Marked: 20, Part: 3},
		"a negative Marked":                {Packets: 6, Bytes: 100, Came: 50, Marked: -1, Part: 3},
		"the least Marked":                 {Packets: 6, Bytes: 100, Came: 50, Marked: math.MinInt, Part: 3},
		"a Marked one above Came":          {Packets: 6, Bytes: 100, Came: 50, Marked: 51, Part: 3},
		"a Marked of 1 above a Came of 0":  {Marked: 1},
		"a Marked of -1 with a Came of 0":  {Marked: -1},
		"a Marked above a Came of 2^60":    {Packets: 6, Bytes: 100, Came: last, Marked: last + 1, Part: 3},
		"the greatest Marked":              {Packets: 6, Bytes: 100, Came: 50, Marked: math.MaxInt, Part: 3},
		"a negative Part":                  {Packets: 6, Bytes: 100, Came: 50, Marked: 20, Part: -1},
		"the least Part":                   {Packets: 6, Bytes: 100, Came: 50, Marked: 20, Part: math.MinInt},
		"a Part of 1025":                   {Packets: 6, Bytes: 100, Came: 50, Marked: 20, Part: 1025},
		"the greatest Part":                {Packets: 6, Bytes: 100, Came: 50, Marked: 20, Part: math.MaxInt},
		"a Packets of -1 and nothing else": {Packets: -1},
		"a Bytes of -1 and nothing else":   {Bytes: -1},
		"a Part of -1 and nothing else":    {Part: -1},
		"a Part of 1025 and nothing else":  {Part: 1025},
		"a Packets above 2^60 by itself":   {Packets: last + 1},
		"a Bytes above 2^60 by itself":     {Bytes: last + 1},
		"a Came above 2^60 by itself":      {Came: last + 1},
		"each field as small as an int can be": {
			Packets: math.MinInt, Bytes: math.MinInt, Came: math.MinInt, Marked: math.MinInt, Part: math.MinInt,
		},
		"each field as great as an int can be": {
			Packets: math.MaxInt, Bytes: math.MaxInt, Came: math.MaxInt, Marked: math.MaxInt, Part: math.MaxInt,
		},
	}
}

// report is what Heard receives beside marks.
type report struct {
	ace            int
	ce             uint32
	packets, bytes int
}

// heard returns what Heard returns.
func heard(m api.Marks, r report) (api.Marks, int, api.Errno) {
	return marks.Heard(m, r.ace, r.ce, r.packets, r.bytes)
}

// further returns a report of so many more marked packets, and bytes, than m knows of.
func further(m api.Marks, n, b, packets, bytes int) report {
	return report{(m.Packets + n) % 8, uint32((m.Bytes + b) % turn), packets, bytes}
}

// reports are reports of all kinds that Heard accepts.
func reports() []report {
	var l []report
	for ace := range 8 {
		for _, ce := range []uint32{0, 1, 99, 100, 101, turn - 1} {
			for _, packets := range []int{0, 1, 6, 7, 8, 9, 15, 16, 1001, most - 1, most} {
				for _, bytes := range []int{0, 1, 100, most} {
					l = append(l, report{ace, ce, packets, bytes})
				}
			}
		}
	}
	return l
}

// after returns what the document says Heard returns, of valid marks and a report that it accepts.
func after(m api.Marks, r report) (api.Marks, int, api.Errno) {
	n, b := 0, 0
	for (m.Packets+n)%8 != r.ace {
		n++
	}
	if b = int(r.ce) - m.Bytes%turn; b < 0 {
		b += turn
	}
	if r.packets >= 8 && b > 0 {
		for n = r.packets; (m.Packets+n)%8 != r.ace; {
			n--
		}
	}
	if m.Packets+n > last || m.Bytes+b > last || m.Came+r.bytes > last {
		return api.Marks{}, 0, api.ErrOver
	}
	return api.Marks{Packets: m.Packets + n, Bytes: m.Bytes + b, Came: m.Came + r.bytes, Marked: m.Marked + min(b, r.bytes), Part: m.Part}, n, api.OK
}

// roundPart returns the part of a round in which bytes came.
func roundPart(m api.Marks) int {
	n := big.NewInt(1024)
	n.Mul(n, big.NewInt(int64(m.Marked)))
	return int(n.Quo(n, big.NewInt(int64(m.Came))).Int64())
}

// ended returns what the document says Round returns, of valid marks.
func ended(m api.Marks) api.Marks {
	part := m.Part
	if m.Came > 0 {
		part += int(math.Floor(float64(roundPart(m)-part) / 16)) // exact with numbers as small as these
	}
	return api.Marks{Packets: m.Packets, Bytes: m.Bytes, Part: part}
}

// expect checks the results of a Heard that succeeds.
func expect(t *testing.T, why string, m api.Marks, r report, want api.Marks, n int) {
	t.Helper()
	got, more, e := heard(m, r)
	if e != api.OK || more != n || got != want {
		t.Errorf("%s: %+v after %+v: %+v %d %d instead of %+v %d", why, m, r, got, more, e, want, n)
	}
}

// expectError checks that Heard returns an error and zero values.
func expectError(t *testing.T, why string, m api.Marks, r report, want api.Errno) {
	t.Helper()
	got, more, e := heard(m, r)
	if e != want || more != 0 || got != (api.Marks{}) {
		t.Errorf("%s: %+v after %+v: %+v %d %d instead of error %d", why, m, r, got, more, e, want)
	}
}

// expectExact checks that the results of Heard are those of the definition, and that the counts are known then.
func expectExact(t *testing.T, m api.Marks, r report) {
	t.Helper()
	want, n, e := after(m, r)
	if e != api.OK {
		expectError(t, "by the definition", m, r, e)
		return
	}
	expect(t, "by the definition", m, r, want, n)
	if ace, ce := marks.Told(want); ace != r.ace || ce != r.ce {
		t.Errorf("%+v after %+v tells %d %d", m, r, ace, ce)
	}
}

// expectRound checks the results of a Round that succeeds.
func expectRound(t *testing.T, why string, m, want api.Marks) {
	t.Helper()
	if got, e := marks.Round(m); e != api.OK || got != want {
		t.Errorf("%s: %+v becomes %+v %d instead of %+v", why, m, got, e, want)
	}
}

// expectPart checks which Part there is after a round, and that the other fields are as they should be.
func expectPart(t *testing.T, why string, came, marked, part, want int) {
	t.Helper()
	expectRound(t, why, api.Marks{Packets: 6, Bytes: 100, Came: came, Marked: marked, Part: part}, api.Marks{Packets: 6, Bytes: 100, Part: want})
}

// dice returns a function that returns numbers from 0 on below n, which depend on the seed only.
func dice(seed int) func(n int) int {
	state := uint64(seed)*2862933555777941757 + 3037000493
	return func(n int) int {
		state = state*6364136223846793005 + 1442695040888963407
		return int(state>>1) % n
	}
}

// P10.1: valid marks, which all calls accept.
func TestValid(t *testing.T) {
	for _, m := range valid() {
		if !marks.May(m) {
			t.Errorf("%+v: not valid", m)
		}
		expect(t, "the same counts again", m, further(m, 0, 0, 0, 0), m, 0)
		expectRound(t, "a round", m, ended(m))
	}
}

// P10.1, P10.2, P10.3: marks that are not valid, with each call.
func TestInvalid(t *testing.T) {
	for why, m := range invalid() {
		if marks.May(m) {
			t.Errorf("%s: valid", why)
		}
		if ace, ce := marks.Told(m); ace != 0 || ce != 0 {
			t.Errorf("%s: %d %d are told", why, ace, ce)
		}
		for _, r := range append(reports(), report{-1, turn, -1, -1}, report{8, turn, most + 1, most + 1}) {
			expectError(t, why, m, r, api.ErrArg)
		}
		if got, e := marks.Round(m); e != api.ErrArg || got != (api.Marks{}) {
			t.Errorf("%s: Round returns %+v %d", why, got, e)
		}
	}
}

// P10.1: all marks with numbers at the edges of what they may be, by the definition.
func TestValidity(t *testing.T) {
	for _, packets := range counts() {
		for _, bytes := range counts() {
			for _, came := range counts() {
				for _, marked := range counts() {
					for _, part := range []int{math.MinInt, -1, 0, 1, 1023, 1024, 1025, math.MaxInt} {
						expectValidity(t, api.Marks{Packets: packets, Bytes: bytes, Came: came, Marked: marked, Part: part})
					}
				}
			}
		}
	}
}

// expectValidity checks that May, Told, Heard and Round agree with the definition whether m is valid.
func expectValidity(t *testing.T, m api.Marks) {
	t.Helper()
	want := api.ErrArg
	if isValid(m) {
		want = api.OK
	}
	ace, ce := marks.Told(m)
	if _, _, e := marks.Heard(m, ace, ce, 0, 0); e != want {
		t.Errorf("%+v: Heard returns %d", m, e)
	}
	if _, e := marks.Round(m); e != want {
		t.Errorf("%+v: Round returns %d", m, e)
	}
	if marks.May(m) != isValid(m) || !isValid(m) && (ace != 0 || ce != 0) {
		t.Errorf("%+v: May is %t, Told %d %d", m, marks.May(m), ace, ce)
	}
}

// P10.1: all that Part may be, and Marked beside Came.
func TestValidFields(t *testing.T) {
	for part := -50; part < 1100; part++ {
		if m := (api.Marks{Came: 9, Part: part}); marks.May(m) != (part >= 0 && part <= 1024) {
			t.Errorf("a Part of %d", part)
		}
	}
	for came := range 20 {
		for marked := -5; marked < 30; marked++ {
			if m := (api.Marks{Came: came, Marked: marked}); marks.May(m) != (marked >= 0 && marked <= came) {
				t.Errorf("a Marked of %d of %d", marked, came)
			}
		}
	}
}

// P10.1: Told on both sides of each modulus.
func TestTold(t *testing.T) {
	for _, c := range []struct{ packets, ace int }{
		{0, 0}, {1, 1}, {6, 6}, {7, 7}, {8, 0}, {9, 1}, {15, 7}, {16, 0}, {17, 1}, {21, 5}, {255, 7}, {256, 0}, {turn - 1, 7}, {turn, 0}, {1<<32 + 3, 3},
		{last - 8, 0}, {last - 7, 1}, {last - 1, 7}, {last, 0},
	} {
		for _, d := range []struct {
			bytes int
			ce    uint32
		}{
			{0, 0}, {1, 1}, {100, 100}, {turn - 2, turn - 2}, {turn - 1, turn - 1}, {turn, 0}, {turn + 1, 1}, {turn + 7, 7}, {2*turn - 1, turn - 1}, {2 * turn, 0}, {2*turn + 1, 1},
			{1<<32 - 1, turn - 1}, {1 << 32, 0}, {1<<32 + 1, 1}, {last - turn, 0}, {last - turn + 1, 1}, {last - 1, turn - 1}, {last, 0},
		} {
			for _, m := range []api.Marks{{}, {Came: 5, Marked: 3, Part: 9}, {Came: last, Marked: last, Part: 1024}} {
				m.Packets, m.Bytes = c.packets, d.bytes
				if ace, ce := marks.Told(m); ace != c.ace || ce != d.ce {
					t.Errorf("%+v: %d %d instead of %d %d", m, ace, ce, c.ace, d.ce)
				}
			}
		}
	}
}

// P10.2, P10.3: the document's examples.
func TestExamples(t *testing.T) {
	expect(t, "3 more", api.Marks{Packets: 6}, report{1, 0, 3, 0}, api.Marks{Packets: 9}, 3)
	expectRound(t, "half", api.Marks{Came: 100, Marked: 50}, api.Marks{Part: 32})
}

// P10.2: each count on from each one before it: N from 0 to 7, also where the count wraps around.
func TestHeardPackets(t *testing.T) {
	for n, c := range [][8]int{ // of each residue of Packets, the ace
		{0, 1, 2, 3, 4, 5, 6, 7},
		{1, 2, 3, 4, 5, 6, 7, 0},
		{2, 3, 4, 5, 6, 7, 0, 1},
		{3, 4, 5, 6, 7, 0, 1, 2},
		{4, 5, 6, 7, 0, 1, 2, 3},
		{5, 6, 7, 0, 1, 2, 3, 4},
		{6, 7, 0, 1, 2, 3, 4, 5},
		{7, 0, 1, 2, 3, 4, 5, 6},
	} {
		for residue, ace := range c {
			for _, before := range []int{residue, residue + 8, residue + 1<<32, residue + last - 16} {
				m := api.Marks{Packets: before, Bytes: 5, Came: 8, Marked: 4, Part: 6}
				want := api.Marks{Packets: before + n, Bytes: 5, Came: 8, Marked: 4, Part: 6}
				for _, packets := range []int{0, 1, 7, 8, 9, 100, most} { // without marked bytes it does not matter how many
					expect(t, "no marked bytes", m, report{ace, 5, packets, 0}, want, n)
				}
				want.Bytes = 6
				for _, packets := range []int{0, 1, 6, 7} {
					expect(t, "marked bytes", m, report{ace, 6, packets, 0}, want, n)
				}
			}
		}
	}
}

// P10.2: B from 0 on, also where the count wraps around.
func TestHeardBytes(t *testing.T) {
	for _, c := range []struct {
		before int
		ce     uint32
		want   int
	}{
		{0, 0, 0}, {0, 1, 1}, {0, turn - 1, turn - 1}, {100, 100, 100}, {100, 101, 101}, {100, 99, turn + 99}, {100, 0, turn},
		{turn - 1, turn - 1, turn - 1}, {turn - 1, 0, turn}, {turn - 1, 1, turn + 1}, {turn - 1, turn - 2, 2*turn - 2},
		{turn, 0, turn}, {turn, 1, turn + 1}, {turn, turn - 1, 2*turn - 1}, {turn + 1, 0, 2 * turn}, {turn + 1, 1, turn + 1},
		{1<<32 - 1, 0, 1 << 32}, {1 << 32, turn - 1, 1<<32 + turn - 1}, {last - turn, turn - 1, last - 1}, {last - 2, turn - 1, last - 1}, {last - 2, 0, last},
	} {
		m := api.Marks{Packets: 3, Bytes: c.before, Came: 7, Marked: 2, Part: 9}
		want := api.Marks{Packets: 3, Bytes: c.want, Came: 7, Marked: 2, Part: 9}
		expect(t, "no bytes acknowledged", m, report{3, c.ce, 1, 0}, want, 0)
		want.Came, want.Marked = 7+most, 2+c.want-c.before
		expect(t, "many bytes acknowledged", m, report{3, c.ce, 1, most}, want, 0)
	}
}

// P10.2: from 8 packets on N is the greatest number that they allow, if there are marked bytes.
func TestHeardMany(t *testing.T) {
	for _, c := range []struct{ packets, residue, n int }{
		{7, 0, 0}, {7, 1, 1}, {7, 6, 6}, {7, 7, 7}, // too few
		{0, 7, 7}, {3, 5, 5}, // more than were acknowledged
		{8, 0, 8}, {8, 1, 1}, {8, 2, 2}, {8, 6, 6}, {8, 7, 7},
		{9, 0, 8}, {9, 1, 9}, {9, 2, 2}, {9, 7, 7},
		{14, 6, 14}, {14, 7, 7}, {15, 6, 14}, {15, 7, 15}, {15, 0, 8}, {16, 0, 16}, {16, 1, 9}, {16, 7, 15}, {17, 0, 16}, {17, 1, 17},
		{20, 3, 19}, {20, 4, 20}, {20, 5, 13}, {1000, 0, 1000}, {1000, 7, 999}, {1000, 1, 993}, {1 << 32, 3, 1<<32 - 5},
		{most - 1, 7, most - 1}, {most - 1, 6, most - 2}, {most, 0, most}, {most, 1, most - 7}, {most, 7, most - 1},
	} {
		for _, before := range []int{0, 1, 5, 7, 8, 1<<40 + 6, last - 2*most} {
			m := api.Marks{Packets: before, Bytes: 10, Part: 8}
			r := further(m, c.residue, 0, c.packets, 0)
			expect(t, "no marked bytes", m, r, api.Marks{Packets: before + c.residue, Bytes: 10, Part: 8}, c.residue)
			for _, b := range []int{1, 2, turn - 1} {
				r = further(m, c.residue, b, c.packets, 0)
				expect(t, "marked bytes", m, r, api.Marks{Packets: before + c.n, Bytes: 10 + b, Part: 8}, c.n)
				r.bytes = most
				expect(t, "marked bytes of many", m, r, api.Marks{Packets: before + c.n, Bytes: 10 + b, Came: most, Marked: b, Part: 8}, c.n)
			}
		}
	}
}

// P10.2: Came increases by bytes, and Marked by the smaller one of B and bytes.
func TestHeardMarked(t *testing.T) {
	for _, c := range []struct{ b, bytes, marked int }{
		{0, 0, 0}, {0, 1, 0}, {0, most, 0}, {1, 0, 0}, {turn - 1, 0, 0}, {1, 1, 1}, {1, 2, 1}, {2, 1, 1}, {300, 500, 300}, {499, 500, 499}, {500, 500, 500}, {501, 500, 500},
		{turn - 1, 500, 500}, {turn - 1, turn - 2, turn - 2}, {turn - 1, turn - 1, turn - 1}, {turn - 1, turn, turn - 1}, {turn - 1, most, turn - 1}, {1, most, 1},
	} {
		for _, m := range []api.Marks{{}, {Bytes: 77}, {Bytes: turn - 1, Came: 5}, {Bytes: 6, Came: 50, Marked: 49, Part: 3}, {Came: 50, Marked: 50}, {Came: 1 << 59, Marked: 1 << 58, Part: 1024}} {
			want := m
			want.Bytes += c.b
			want.Came += c.bytes
			want.Marked += c.marked
			expect(t, "no packets", m, further(m, 0, c.b, 0, c.bytes), want, 0)
			want.Packets += 2
			expect(t, "2 packets", m, further(m, 2, c.b, 7, c.bytes), want, 2)
		}
	}
}

// P10.2: numbers that Heard does not accept, each by itself and beside each other.
func TestHeardArguments(t *testing.T) {
	fine := report{1, 400, 3, 500}
	for why, change := range map[string]func(r *report){
		"an ace of -1":               func(r *report) { r.ace = -1 },
		"an ace of -8":               func(r *report) { r.ace = -8 },
		"the least ace":              func(r *report) { r.ace = math.MinInt },
		"an ace of 8":                func(r *report) { r.ace = 8 },
		"an ace of 9":                func(r *report) { r.ace = 9 },
		"the greatest ace":           func(r *report) { r.ace = math.MaxInt },
		"a ce of 2^24":               func(r *report) { r.ce = turn },
		"a ce of 2^24 + 1":           func(r *report) { r.ce = turn + 1 },
		"a ce of 2^31":               func(r *report) { r.ce = 1 << 31 },
		"the greatest ce":            func(r *report) { r.ce = math.MaxUint32 },
		"packets of -1":              func(r *report) { r.packets = -1 },
		"the least packets":          func(r *report) { r.packets = math.MinInt },
		"packets of 2^40 + 1":        func(r *report) { r.packets = most + 1 },
		"the greatest packets":       func(r *report) { r.packets = math.MaxInt },
		"bytes of -1":                func(r *report) { r.bytes = -1 },
		"the least bytes":            func(r *report) { r.bytes = math.MinInt },
		"bytes of 2^40 + 1":          func(r *report) { r.bytes = most + 1 },
		"the greatest bytes":         func(r *report) { r.bytes = math.MaxInt },
		"nothing that Heard accepts": func(r *report) { *r = report{8, turn, -1, most + 1} },
	} {
		r := fine
		change(&r)
		for _, m := range valid() { // those as great as can be would be ErrOver
			expectError(t, why, m, r, api.ErrArg)
		}
		for _, r := range []report{{}, {0, 0, 8, 0}, {7, turn - 1, most, most}} {
			change(&r)
			expectError(t, why, api.Marks{}, r, api.ErrArg)
			expectError(t, why, api.Marks{Packets: last, Bytes: last, Came: last, Marked: last}, r, api.ErrArg)
		}
	}
	expectExact(t, api.Marks{}, fine)
	expectExact(t, api.Marks{}, report{0, 0, 0, 0})
	expectExact(t, api.Marks{}, report{7, turn - 1, most, most})
}

// P10.2: Packets + N of exactly 2^60, and of more.
func TestHeardPacketsOver(t *testing.T) {
	m := api.Marks{Packets: last - 3, Bytes: 5, Came: 2, Part: 1}
	for n := range 8 {
		r := further(m, n, 0, 9, 1)
		if n <= 3 {
			expect(t, "at most 2^60", m, r, api.Marks{Packets: last - 3 + n, Bytes: 5, Came: 3, Part: 1}, n)
		} else {
			expectError(t, "more than 2^60", m, r, api.ErrOver)
		}
	}
	m.Packets = last
	expect(t, "2^60 that stays", m, report{0, 6, 0, 1}, api.Marks{Packets: last, Bytes: 6, Came: 3, Marked: 1, Part: 1}, 0)
	expectError(t, "one more than 2^60", m, report{1, 6, 0, 1}, api.ErrOver)
	m.Packets = last - 8
	expect(t, "exactly 2^60 by 8 packets", m, report{0, 6, 8, 1}, api.Marks{Packets: last, Bytes: 6, Came: 3, Marked: 1, Part: 1}, 8)
	expectError(t, "one more by 9 packets", m, report{1, 6, 9, 1}, api.ErrOver)
	expect(t, "1 more by 9 packets without marked bytes", m, report{1, 5, 9, 1}, api.Marks{Packets: last - 7, Bytes: 5, Came: 3, Part: 1}, 1)
	m.Packets = last - most
	expect(t, "exactly 2^60 by 2^40 packets", m, report{0, 6, most, 1}, api.Marks{Packets: last, Bytes: 6, Came: 3, Marked: 1, Part: 1}, most)
	m.Packets++
	expectError(t, "one more by 2^40 packets", m, report{1, 6, most, 1}, api.ErrOver)
}

// P10.2: Bytes + B, and Came + bytes, of exactly 2^60, and of more.
func TestHeardBytesOver(t *testing.T) {
	m := api.Marks{Packets: 5, Bytes: last - 3, Came: 2, Part: 1}
	expect(t, "Bytes becomes 2^60", m, report{5, 0, 1, 9}, api.Marks{Packets: 5, Bytes: last, Came: 11, Marked: 3, Part: 1}, 0)
	expect(t, "Bytes stays", m, report{5, turn - 3, 1, 9}, api.Marks{Packets: 5, Bytes: last - 3, Came: 11, Part: 1}, 0)
	expectError(t, "Bytes would be one more", m, report{5, 1, 1, 9}, api.ErrOver)
	expectError(t, "Bytes would be one more, of no bytes", m, report{5, 1, 0, 0}, api.ErrOver)
	expectError(t, "Bytes would be as much more as can be", m, report{5, turn - 4, 1, 9}, api.ErrOver)
	m.Bytes = last
	expect(t, "Bytes stays 2^60", m, report{5, 0, 1, 9}, api.Marks{Packets: 5, Bytes: last, Came: 11, Part: 1}, 0)
	expectError(t, "one more than 2^60", m, report{5, 1, 1, 9}, api.ErrOver)
	m = api.Marks{Packets: 5, Bytes: 6, Came: last - 3, Marked: 4, Part: 1}
	expect(t, "Came becomes 2^60", m, report{5, 8, 1, 3}, api.Marks{Packets: 5, Bytes: 8, Came: last, Marked: 6, Part: 1}, 0)
	expectError(t, "Came would be one more", m, report{5, 8, 1, 4}, api.ErrOver)
	expectError(t, "Came would be one more, without marks", m, report{5, 6, 0, 4}, api.ErrOver)
	expectError(t, "Came would be as much more as can be", m, report{5, 8, 1, most}, api.ErrOver)
	m.Marked = last - 3
	expect(t, "Came and Marked become 2^60", m, report{5, 9, 1, 3}, api.Marks{Packets: 5, Bytes: 9, Came: last, Marked: last, Part: 1}, 0)
	expectError(t, "Came and Marked would be one more", m, report{5, 10, 1, 4}, api.ErrOver)
	m = api.Marks{Came: last - most}
	expect(t, "Came becomes 2^60 by 2^40", m, report{0, 0, 0, most}, api.Marks{Came: last}, 0)
	m.Came++
	expectError(t, "Came would be one more by 2^40", m, report{0, 0, 0, most}, api.ErrOver)
	expectError(t, "all would be more", api.Marks{Packets: last, Bytes: last, Came: last, Marked: last, Part: 1024}, report{1, 1, 1, 1}, api.ErrOver)
}

// P10.2: marks and reports of all kinds, by the definition.
func TestHeardExact(t *testing.T) {
	for _, m := range valid() {
		for _, r := range reports() {
			expectExact(t, m, r)
		}
	}
	for packets := range 9 {
		for _, bytes := range []int{0, 1, 2, 100, turn - 1, turn, turn + 1} {
			m := api.Marks{Packets: packets, Bytes: bytes, Came: 200, Marked: 30, Part: 40}
			for ace := range 8 {
				for acknowledged := range 30 {
					for b := range 3 {
						expectExact(t, m, report{ace, uint32((bytes + b) % turn), acknowledged, 1})
					}
				}
			}
		}
	}
}

// P10.3: Part after rounds of all kinds, worked out by hand.
func TestRound(t *testing.T) {
	for _, c := range []struct {
		why                      string
		came, marked, part, want int
	}{
		{"nothing came", 0, 0, 0, 0}, {"nothing came", 0, 0, 1, 1}, {"nothing came", 0, 0, 77, 77}, {"nothing came", 0, 0, 1024, 1024},
		{"no marks", 100, 0, 0, 0}, {"no marks", 100, 0, 1024, 960}, {"no marks", 100, 0, 77, 72}, {"no marks", 100, 0, 16, 15}, {"no marks", 100, 0, 15, 14}, {"no marks", 1, 0, 1, 0},
		{"all marked", 100, 100, 0, 64}, {"all marked", 100, 100, 1024, 1024}, {"all marked", 1, 1, 77, 136}, {"all marked", 9, 9, 1008, 1009}, {"all marked", 9, 9, 1009, 1009}, {"all marked", 9, 9, 1023, 1023},
		{"half marked", 100, 50, 0, 32}, {"half marked", 100, 50, 512, 512}, {"half marked", 2, 1, 1024, 992}, {"half marked", 2, 1, 511, 511}, {"half marked", 2, 1, 513, 512}, {"half marked", 2, 1, 496, 497},
		{"a third: 341 and a remainder", 3, 1, 0, 21}, {"a third: 341 and a remainder", 3, 1, 341, 341}, {"a third: 341 and a remainder", 3, 1, 342, 341}, {"a third: 341 and a remainder", 3, 1, 325, 326}, {"a third: 341 and a remainder", 3, 1, 326, 326},
		{"two thirds: 682 and a remainder", 3, 2, 666, 667}, {"two thirds: 682 and a remainder", 3, 2, 667, 667}, {"two thirds: 682 and a remainder", 3, 2, 683, 682},
		{"a part below 1", 1025, 1, 0, 0}, {"a part below 1", 1025, 1, 1, 0}, {"a part of 1", 1024, 1, 1, 1}, {"a part of 16", 64, 1, 0, 1}, {"a part of 15 and a remainder", 65, 1, 0, 0},
		{"a part just below 1024", 1025, 1024, 1024, 1023}, {"a part just below 1024", 1 << 20, 1<<20 - 1, 1023, 1023}, {"a part just below 1024", 1 << 20, 1<<20 - 1, 1024, 1023},
		{"the greatest", last, last, 0, 64}, {"the greatest", last, last, 1024, 1024}, {"the greatest, without marks", last, 0, 1024, 960}, {"one less than the greatest", last, last - 1, 1024, 1023}, {"one less than the greatest", last, last - 1, 1007, 1008},
		{"half the greatest", last, last / 2, 0, 32}, {"one less than half the greatest", last, last/2 - 1, 512, 511}, {"1 of the greatest", last, 1, 16, 15}, {"a part of 1 of the greatest", last, 1 << 50, 1, 1}, {"one less", last, 1<<50 - 1, 1, 0},
		{"a third of almost the greatest", last - 1, (last - 1) / 3, 341, 341}, {"a third of almost the greatest", last - 1, (last - 1) / 3, 325, 326}, {"all of almost the greatest", last - 1, last - 1, 0, 64},
	} {
		expectPart(t, c.why, c.came, c.marked, c.part, c.want)
	}
}

// P10.3: Came and Marked become 0, Packets and Bytes stay.
func TestRoundFields(t *testing.T) {
	for _, m := range valid() {
		got, e := marks.Round(m)
		if e != api.OK || got.Came != 0 || got.Marked != 0 || got.Packets != m.Packets || got.Bytes != m.Bytes || !marks.May(got) {
			t.Errorf("%+v becomes %+v %d", m, got, e)
		}
		expectRound(t, "another round, in which nothing came", got, got)
	}
}

// P10.3: small and great rounds of all kinds, by the definition.
func TestRoundExact(t *testing.T) {
	for came := range 21 {
		for marked := range came + 1 {
			for part := range 1025 {
				m := api.Marks{Packets: 3, Bytes: 4, Came: came, Marked: marked, Part: part}
				expectRound(t, "small", m, ended(m))
			}
		}
	}
	for seed := range 2000 {
		roll := dice(seed)
		m := api.Marks{Packets: roll(last + 1), Bytes: roll(last + 1), Came: 1 + roll(last>>roll(60)), Part: roll(1025)}
		m.Marked = roll(m.Came + 1)
		expectRound(t, "great", m, ended(m))
	}
}

// P10.4: less than eight more marked packets, and less than 2^24 more marked bytes, are found again.
func TestReconstructed(t *testing.T) {
	for seed := range 30 {
		roll := dice(seed)
		there := api.Marks{Packets: roll(1 << 50), Bytes: roll(1 << 50)} // what is known where the packets come
		here := there                                                    // what is known where they are acknowledged
		for range 500 {
			packets := roll(8)
			more := roll(packets + 1)
			there.Packets += more
			marked := more * roll(turn/8)
			there.Bytes += marked
			bytes := marked + roll(5000)*(packets-more)
			here = expectFound(t, here, there, report{packets: packets, bytes: bytes}, more, marked)
		}
	}
}

// expectFound returns the marks here after the counts there, and checks that both counts are known here then.
func expectFound(t *testing.T, here, there api.Marks, r report, more, marked int) api.Marks {
	t.Helper()
	r.ace, r.ce = marks.Told(there)
	got, n, e := heard(here, r)
	want := api.Marks{Packets: there.Packets, Bytes: there.Bytes, Came: here.Came + r.bytes, Marked: here.Marked + min(marked, r.bytes), Part: here.Part}
	if e != api.OK || n != more || got != want {
		t.Errorf("%+v after %+v: %+v %d %d instead of %+v %d", here, r, got, n, e, want, more)
	}
	return got
}

// P10.4: counts are found again too where many packets are acknowledged, if none of them is marked, or fewer than eight are not.
func TestReconstructedMany(t *testing.T) {
	for seed := range 30 {
		roll := dice(seed)
		there := api.Marks{Packets: roll(1 << 50), Bytes: roll(1 << 50)}
		here := there
		for range 300 {
			packets, more := 8+roll(1000), 0
			if roll(2) == 1 {
				more = packets - roll(8)
			}
			there.Packets += more
			there.Bytes += more * 1460
			here = expectFound(t, here, there, report{packets: packets, bytes: packets * 1460}, more, more*1460)
		}
	}
}

// P10.2, P10.3, P10.4: Heard and Round in turn, by the definition, with a Part between the one before and that of the round.
func TestRounds(t *testing.T) {
	for seed := range 60 {
		roll := dice(seed)
		m := api.Marks{Packets: roll(1 << 59), Bytes: roll(1 << 59), Part: roll(1025)}
		for range 100 {
			for range roll(6) {
				r := report{roll(8), uint32(roll(turn >> roll(24))), roll(20), roll(most >> roll(41))}
				expectExact(t, m, r)
				m, _, _ = heard(m, r)
			}
			expectRound(t, "a round", m, ended(m))
			m = expectBetween(t, m)
		}
	}
}

// expectBetween returns m after a round, and checks that Part lies between its previous value and that of the round.
func expectBetween(t *testing.T, m api.Marks) api.Marks {
	t.Helper()
	round := m.Part
	if m.Came > 0 {
		round = roundPart(m)
	}
	got, e := marks.Round(m)
	if e != api.OK || got.Part < min(m.Part, round) || got.Part > max(m.Part, round) {
		t.Errorf("%+v becomes %+v %d: Part is not between %d and %d", m, got, e, m.Part, round)
	}
	return got
}

// P10.4: Part lies between its previous value and that of the round, for each Part.
func TestPartBetween(t *testing.T) {
	for part := range 1025 {
		for _, c := range [][2]int{{0, 0}, {1, 0}, {1, 1}, {3, 1}, {3, 2}, {1025, 1}, {1025, 1024}, {100, 50}, {last, 0}, {last, 1}, {last, last - 1}, {last, last}} {
			expectBetween(t, api.Marks{Came: c[0], Marked: c[1], Part: part})
		}
	}
}

// P10.4: rounds without marks take Part to 0, rounds that are all marked take it up as far as it can be shifted.
func TestPartSettles(t *testing.T) {
	for part := range 1025 {
		down, up := api.Marks{Part: part}, api.Marks{Part: part}
		for range 200 {
			down.Came, up.Came, up.Marked = 5, 5, 5
			down, up = expectBetween(t, down), expectBetween(t, up)
		}
		if down.Part != 0 || up.Part != max(part, 1009) {
			t.Errorf("from %d on: %d and %d", part, down.Part, up.Part)
		}
	}
}

// R5: the same call has the same results again.
func TestCallsAgain(t *testing.T) {
	for _, m := range valid() {
		for _, r := range reports()[:300] {
			a, n, e := heard(m, r)
			heard(api.Marks{Packets: 5, Bytes: 7, Came: 9, Part: 1000}, report{3, 5, 9, 8})
			if b, k, f := heard(m, r); a != b || n != k || e != f {
				t.Errorf("%+v after %+v: %+v %d %d, then %+v %d %d", m, r, a, n, e, b, k, f)
			}
		}
		a, e := marks.Round(m)
		if b, f := marks.Round(m); a != b || e != f {
			t.Errorf("%+v becomes %+v %d, then %+v %d", m, a, e, b, f)
		}
		ace, ce := marks.Told(m)
		if again, too := marks.Told(m); again != ace || too != ce {
			t.Errorf("%+v tells %d %d, then %d %d", m, ace, ce, again, too)
		}
	}
}
