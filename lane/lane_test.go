package lane_test

import (
	"fmt"
	"math"
	"slices"
	"strings"
	"testing"

	"fourinhand/api"
	"fourinhand/lane"
)

// longest is how many bytes a packet has at most, and most how many packets a lane has.
const (
	longest = 2000
	most    = 64
)

// pack is a packet of which nothing can be changed from outside.
type pack struct {
	b      string
	marked bool
}

// of returns packets with these bytes, of which those that end with * (which does not count) are marked.
func of(l ...string) []pack {
	var packs []pack
	for _, s := range l {
		b, marked := strings.CutSuffix(s, "*")
		packs = append(packs, pack{b, marked})
	}
	return packs
}

// text returns n bytes that differ from those for another seed.
func text(seed, n int) string {
	b := make([]byte, n)
	for i := range b {
		b[i] = byte('A' + (seed*7+i*(seed%5+1))%61)
	}
	return string(b)
}

// many returns n packets, none like its neighbours, of which every third one is marked and every ninth one has no bytes.
func many(n int) []pack {
	var l []pack
	for i := range n {
		l = append(l, pack{text(i, i%9), i%3 == 0})
	}
	return l
}

// with returns l with another packet at i.
func with(l []pack, i int, p pack) []pack {
	l = slices.Clone(l)
	l[i] = p
	return l
}

// joined returns l with p behind it.
func joined(l []pack, p ...pack) []pack { return slices.Concat(l, p) }

// without returns l without the packet i.
func without(l []pack, i int) []pack { return slices.Concat(l[:i], l[i+1:]) }

// roomy returns the bytes b, with others behind their end.
func roomy(b string) []byte {
	return append(make([]byte, 0, len(b)+3), b+"???"...)[:len(b)]
}

// given returns a lane with memory of its own, with packets behind its end.
func given(l []pack) []api.Packet {
	g := make([]api.Packet, 0, len(l)+3)
	for _, p := range joined(l, of("behind", "the*", "end")...) {
		g = append(g, api.Packet{B: roomy(p.b), Marked: p.marked})
	}
	return g[:len(l)]
}

// seen returns what a lane holds.
func seen(l []api.Packet) []pack {
	var s []pack
	for _, p := range l {
		s = append(s, pack{string(p.B), p.Marked})
	}
	return s
}

// wholly returns what a lane holds, and what is behind the ends of its lists.
func wholly(l []api.Packet) []pack {
	var s []pack
	for _, p := range l[:cap(l)] {
		s = append(s, pack{string(p.B[:cap(p.B)]), p.Marked})
	}
	return s
}

// garbleBytes changes all bytes of a packet, also those behind its end.
func garbleBytes(p api.Packet) {
	for i := range p.B[:cap(p.B)] {
		p.B[:cap(p.B)][i] ^= 0xA5
	}
}

// garble changes all that a lane holds, also what is behind its end.
func garble(l []api.Packet) {
	l = l[:cap(l)]
	for i, p := range l {
		garbleBytes(p)
		l[i] = api.Packet{B: []byte("gone"), Marked: !p.Marked}
	}
}

// show describes packets without telling thousands of bytes.
func show(l []pack) string {
	var b strings.Builder
	for _, p := range l[:min(len(l), 70)] {
		fmt.Fprintf(&b, " %.12q", p.b)
		if n := len(p.b); n > 12 {
			fmt.Fprintf(&b, "(%d)", n)
		}
		if p.marked {
			b.WriteString("*")
		}
	}
	return fmt.Sprintf("%d:%s", len(l), b.String())
}

// answer is all that a call returns.
type answer struct {
	l  []api.Packet
	p  api.Packet
	ok bool
}

// outcome is an answer of which nothing can be changed from outside.
type outcome struct {
	l  []pack
	p  pack
	ok bool
}

// outcome returns what a is at the moment.
func (a answer) outcome() outcome {
	return outcome{seen(a.l), pack{string(a.p.B), a.p.Marked}, a.ok}
}

// equal reports whether two outcomes are the same.
func (o outcome) equal(p outcome) bool {
	return slices.Equal(o.l, p.l) && o.p == p.p && o.ok == p.ok
}

// String describes an outcome.
func (o outcome) String() string {
	return fmt.Sprintf("%v, %s, taken %s", o.ok, show(o.l), show([]pack{o.p}))
}

// done is the outcome true, with l.
func done(l []pack) outcome { return outcome{l: l, ok: true} }

// taken is the outcome true, with l and p.
func taken(l []pack, p pack) outcome { return outcome{l, p, true} }

// refused is the outcome false, with l unchanged.
func refused(l []pack) outcome { return outcome{l: l} }

// op is a call: which one, and with what beside the lane.
type op struct {
	name  string
	b     string
	i, at int
	by    byte
}

func push(b string) op            { return op{name: "push", b: b} }
func take(i int) op               { return op{name: "take", i: i} }
func twice(i int) op              { return op{name: "twice", i: i} }
func mark(i int) op               { return op{name: "mark", i: i} }
func spoil(i, at int, by byte) op { return op{name: "spoil", i: i, at: at, by: by} }

// describe tells a call of which the lane is l.
func (o op) describe(l []pack) string {
	return fmt.Sprintf("%s %.12q (%d bytes) %d %d %d, %s", o.name, o.b, len(o.b), o.i, o.at, o.by, show(l))
}

// call calls it; b stands for the bytes of o.
func (o op) call(l []api.Packet, b []byte) answer {
	var a answer
	switch o.name {
	case "push":
		a.l, a.ok = lane.Push(l, b)
	case "take":
		a.l, a.p, a.ok = lane.Take(l, o.i)
	case "twice":
		a.l, a.ok = lane.Twice(l, o.i)
	case "mark":
		a.l, a.ok = lane.Mark(l, o.i)
	case "spoil":
		a.l, a.ok = lane.Spoil(l, o.i, o.at, o.by)
	}
	return a
}

// expectApart checks that no packet of an answer shares memory with another one; it changes the answer.
func expectApart(t *testing.T, why string, a answer) {
	t.Helper()
	all := append([]api.Packet{a.p}, a.l[:cap(a.l)]...)
	for _, shift := range []int{0, 8} { // a packet is filled with its number, of which a byte holds a part
		for i, p := range all {
			for at := range p.B[:cap(p.B)] {
				p.B[:cap(p.B)][at] = byte(i >> shift)
			}
		}
		for i, p := range all {
			for _, b := range p.B[:cap(p.B)] {
				if b != byte(i>>shift) {
					t.Errorf("%s: packets of the answer share memory", why)
					return
				}
			}
		}
	}
}

// expect checks a call: its answer; that it changes nothing that is given, shares no memory with it, nor any within its answer, and answers the same when it is called again.
func expect(t *testing.T, l []pack, o op, want outcome) {
	t.Helper()
	why := o.describe(l)
	g, b := given(l), roomy(o.b)
	before, beforeB := wholly(g), string(b[:cap(b)])
	a := o.call(g, b)
	if !a.outcome().equal(want) {
		t.Errorf("%s:\n got %v\nwant %v", why, a.outcome(), want)
	}
	if !slices.Equal(wholly(g), before) || string(b[:cap(b)]) != beforeB {
		t.Errorf("%s: what was given is changed", why)
	}
	again := o.call(g, b)
	if !again.outcome().equal(want) {
		t.Errorf("%s: another answer when it is called again", why)
	}
	garble(again.l)
	garbleBytes(again.p)
	if !slices.Equal(wholly(g), before) || string(b[:cap(b)]) != beforeB {
		t.Errorf("%s: what was given changes with the answer", why)
	}
	garble(g)
	garbleBytes(api.Packet{B: b})
	if !a.outcome().equal(want) {
		t.Errorf("%s: the answer changes with what was given, or with another answer", why)
	}
	expectApart(t, why, a)
}

// named are lanes, and what they are.
type named map[string][]pack

// valid lanes.
func valid() named {
	full := many(most)
	for i := range full {
		full[i].b = text(i, longest)
	}
	return named{
		"nothing":                        nil,
		"a packet without bytes":         of(""),
		"a marked packet without bytes":  of("*"),
		"one byte":                       of("a"),
		"a byte that is 0":               {{b: "\x00"}},
		"2 packets":                      of("ab", "cd*"),
		"two that are the same":          of("ab", "ab"),
		"3 packets":                      many(3),
		"63 packets":                     many(most - 1),
		"64 packets":                     many(most),
		"64 packets without bytes":       make([]pack, most),
		"64 packets of 2000 bytes":       full,
		"1999 bytes":                     {{b: text(1, longest-1)}},
		"2000 bytes":                     {{b: text(1, longest)}},
		"2000 bytes, marked":             {{text(1, longest), true}},
		"2000 bytes first":               with(many(3), 0, pack{b: text(1, longest)}),
		"2000 bytes in the middle":       with(many(3), 1, pack{b: text(1, longest)}),
		"2000 bytes last":                with(many(3), 2, pack{b: text(1, longest)}),
		"2000 bytes last of 64":          with(many(most), most-1, pack{b: text(1, longest)}),
		"2000 bytes, and as many behind": {{b: text(1, longest)}, {b: text(2, longest)}},
	}
}

// invalid lanes.
func invalid() named {
	return named{
		"65 packets":                      many(most + 1),
		"65 packets without bytes":        make([]pack, most+1),
		"66 packets":                      many(most + 2),
		"128 packets":                     many(2 * most),
		"1000 packets":                    many(1000),
		"2001 bytes":                      {{b: text(1, longest+1)}},
		"2001 bytes, marked":              {{text(1, longest+1), true}},
		"2002 bytes":                      {{b: text(1, longest+2)}},
		"100000 bytes":                    {{b: text(1, 100000)}},
		"2001 bytes first":                with(many(3), 0, pack{b: text(1, longest+1)}),
		"2001 bytes in the middle":        with(many(3), 1, pack{b: text(1, longest+1)}),
		"2001 bytes last":                 with(many(3), 2, pack{b: text(1, longest+1)}),
		"2001 bytes last of 63":           with(many(most-1), most-2, pack{b: text(1, longest+1)}),
		"2001 bytes first of 64":          with(many(most), 0, pack{b: text(1, longest+1)}),
		"2001 bytes last of 64":           with(many(most), most-1, pack{b: text(1, longest+1)}),
		"2001 bytes in the middle of 65":  with(many(most+1), 32, pack{b: text(1, longest+1)}),
		"2001 bytes behind 2000":          {{b: text(1, longest)}, {b: text(2, longest+1)}},
		"2001 bytes twice":                {{b: text(1, longest+1)}, {b: text(2, longest+1)}},
		"2001 bytes, marked, behind none": {{"", true}, {text(2, longest+1), true}},
	}
}

// wild are indexes far from any that there are.
func wild() []int {
	return []int{math.MinInt, math.MinInt + 1, -1 << 62, -1 << 32, -most, -2, 1000, 1 << 31, 1 << 32, 1 << 62, math.MaxInt - 1, math.MaxInt}
}

// expectMay checks what May reports, and that it changes nothing.
func expectMay(t *testing.T, why string, l []pack, want bool) {
	t.Helper()
	g := given(l)
	before := wholly(g)
	if lane.May(g) != want || lane.May(g) != want {
		t.Errorf("%s: May is not %v", why, want)
	}
	if !slices.Equal(wholly(g), before) {
		t.Errorf("%s: what was given to May is changed", why)
	}
}

// P22.1: May.
func TestMay(t *testing.T) {
	for why, l := range valid() {
		expectMay(t, why, l, true)
	}
	for why, l := range invalid() {
		expectMay(t, why, l, false)
	}
}

// P22.1: May asks for lengths, not for capacities; an empty list may be nil.
func TestMayCapacity(t *testing.T) {
	for _, l := range [][]api.Packet{
		nil, {}, {{}}, {{B: []byte{}}}, make([]api.Packet, 0, 1000), make([]api.Packet, most, 1000), make([]api.Packet, most+1)[:most],
		{{B: make([]byte, 0, 5000)}}, {{B: make([]byte, longest, 5000)}}, {{B: make([]byte, longest+1)[:longest]}}, []api.Packet{{B: make([]byte, longest+1)}}[:0],
	} {
		if !lane.May(l) {
			t.Errorf("%d packets of %d: not valid", len(l), cap(l))
		}
	}
}

// P22.1: May, for each number of packets, and for each length of a packet near the limit at each place.
func TestMayEverywhere(t *testing.T) {
	for n := range 3 * most {
		expectMay(t, fmt.Sprint(n, " packets"), many(n), n <= 64)
	}
	for i := range most {
		for _, n := range []int{0, 1999, 2000, 2001} {
			expectMay(t, fmt.Sprint(n, " bytes at ", i), with(many(most), i, pack{b: text(i, n)}), n <= 2000)
		}
	}
}

// P22.1, P22.2: an empty list may be nil or not, in what is given and in what is returned.
func TestEmpty(t *testing.T) {
	for _, l := range [][]api.Packet{nil, {}, make([]api.Packet, 0, 5)} {
		for _, b := range [][]byte{nil, {}, make([]byte, 0, 5)} {
			a := push("").call(l, b)
			if !a.outcome().equal(done(of(""))) {
				t.Errorf("a push of nothing: %v", a.outcome())
			}
			full := slices.Repeat([]api.Packet{{B: b}}, most)
			for _, o := range []op{push(""), twice(0), twice(-1), mark(most), spoil(0, 0, 1), take(most)} {
				if a := o.call(full, b); !a.outcome().equal(refused(make([]pack, most))) {
					t.Errorf("%s: %v", o.describe(nil), a.outcome())
				}
			}
			one := []api.Packet{{B: b, Marked: true}}
			if a := take(0).call(one, nil); !a.outcome().equal(taken(nil, pack{"", true})) {
				t.Errorf("take of a packet without bytes: %v", a.outcome())
			}
			if a := twice(0).call(one, nil); !a.outcome().equal(done(of("*", "*"))) {
				t.Errorf("twice of a packet without bytes: %v", a.outcome())
			}
			if a := mark(0).call([]api.Packet{{B: b}}, nil); !a.outcome().equal(done(of("*"))) {
				t.Errorf("mark of a packet without bytes: %v", a.outcome())
			}
		}
		for _, o := range []op{take(0), twice(0), mark(0), spoil(0, 0, 0)} {
			if a := o.call(l, nil); !a.outcome().equal(refused(nil)) {
				t.Errorf("%s of no packet: %v", o.name, a.outcome())
			}
		}
	}
}

// P22.1: Push.
func TestPush(t *testing.T) {
	for _, c := range []struct {
		l []pack
		b string
	}{
		{nil, "a"}, {nil, ""}, {nil, "\x00"}, {of("a"), "b"}, {of("a"), "a"}, {of("a*"), "a"}, {of("", "b*"), "c"},
		{of("ab", "cd"), ""}, {many(2), text(9, 1999)}, {many(2), text(9, 2000)}, {nil, text(9, 2000)},
		{many(62), "ab"}, {many(63), "ab"}, {many(63), ""}, {many(63), text(9, 2000)},
		{[]pack{{text(1, 2000), true}}, text(2, 2000)},
	} {
		expect(t, c.l, push(c.b), done(joined(c.l, pack{c.b, false})))
	}
	for _, c := range []struct {
		l []pack
		b string
	}{
		{many(64), "ab"}, {many(64), ""}, {many(64), text(9, 2000)}, {many(64), text(9, 2001)}, {make([]pack, 64), ""},
		{nil, text(9, 2001)}, {nil, text(9, 2002)}, {nil, text(9, 70000)}, {many(2), text(9, 2001)}, {many(63), text(9, 2001)},
	} {
		expect(t, c.l, push(c.b), refused(c.l))
	}
}

// P22.1: each length of b, and each number of packets.
func TestPushEverywhere(t *testing.T) {
	for n := range 2100 {
		b := text(n, n)
		want := refused(of("ab*"))
		if n <= 2000 {
			want = done(joined(of("ab*"), pack{b: b}))
		}
		expect(t, of("ab*"), push(b), want)
	}
	for n := range most + 3 {
		want := refused(many(n))
		if n < 64 {
			want = done(joined(many(n), pack{b: "xy"}))
		}
		expect(t, many(n), push("xy"), want)
	}
}

// P22.1: Take.
func TestTake(t *testing.T) {
	l := of("ab", "cd*", "", "efg")
	expect(t, l, take(-1), refused(l))
	expect(t, l, take(0), taken(of("cd*", "", "efg"), pack{"ab", false}))
	expect(t, l, take(1), taken(of("ab", "", "efg"), pack{"cd", true}))
	expect(t, l, take(2), taken(of("ab", "cd*", "efg"), pack{"", false}))
	expect(t, l, take(3), taken(of("ab", "cd*", ""), pack{"efg", false}))
	expect(t, l, take(4), refused(l))
	expect(t, nil, take(-1), refused(nil))
	expect(t, nil, take(0), refused(nil))
	expect(t, nil, take(1), refused(nil))
	expect(t, of("ab"), take(-1), refused(of("ab")))
	expect(t, of("ab"), take(0), taken(nil, pack{"ab", false}))
	expect(t, of("ab*"), take(0), taken(nil, pack{"ab", true}))
	expect(t, of("ab"), take(1), refused(of("ab")))
	expect(t, []pack{{text(1, 2000), true}, {text(2, 2000), false}}, take(0), taken([]pack{{text(2, 2000), false}}, pack{text(1, 2000), true}))
	full := many(64)
	for i := range full {
		expect(t, full, take(i), taken(without(full, i), full[i]))
	}
	expect(t, full, take(-1), refused(full))
	expect(t, full, take(64), refused(full))
}

// P22.2: Twice.
func TestTwice(t *testing.T) {
	l := of("ab", "cd*", "", "efg")
	expect(t, l, twice(-1), refused(l))
	expect(t, l, twice(0), done(of("ab", "cd*", "", "efg", "ab")))
	expect(t, l, twice(1), done(of("ab", "cd*", "", "efg", "cd*")))
	expect(t, l, twice(2), done(of("ab", "cd*", "", "efg", "")))
	expect(t, l, twice(3), done(of("ab", "cd*", "", "efg", "efg")))
	expect(t, l, twice(4), refused(l))
	for i := -1; i < 2; i++ {
		expect(t, nil, twice(i), refused(nil))
	}
	expect(t, of("ab"), twice(0), done(of("ab", "ab")))
	expect(t, of("ab*"), twice(0), done(of("ab*", "ab*")))
	expect(t, of("ab"), twice(1), refused(of("ab")))
	expect(t, []pack{{text(1, 2000), true}}, twice(0), done([]pack{{text(1, 2000), true}, {text(1, 2000), true}}))
	for _, n := range []int{62, 63} {
		for i := range n {
			expect(t, many(n), twice(i), done(joined(many(n), many(n)[i])))
		}
		expect(t, many(n), twice(-1), refused(many(n)))
		expect(t, many(n), twice(n), refused(many(n)))
	}
	for i := -1; i <= 64; i++ {
		expect(t, many(64), twice(i), refused(many(64)))
	}
}

// P22.2: Mark; a packet that is marked remains so.
func TestMark(t *testing.T) {
	l := of("ab", "cd*", "", "efg")
	expect(t, l, mark(-1), refused(l))
	expect(t, l, mark(0), done(of("ab*", "cd*", "", "efg")))
	expect(t, l, mark(1), done(l))
	expect(t, l, mark(2), done(of("ab", "cd*", "*", "efg")))
	expect(t, l, mark(3), done(of("ab", "cd*", "", "efg*")))
	expect(t, l, mark(4), refused(l))
	for i := -1; i < 2; i++ {
		expect(t, nil, mark(i), refused(nil))
	}
	expect(t, of("ab"), mark(0), done(of("ab*")))
	expect(t, of("ab*"), mark(0), done(of("ab*")))
	expect(t, of("ab"), mark(1), refused(of("ab")))
	for _, n := range []int{63, 64} {
		l := many(n)
		for i, p := range l {
			expect(t, l, mark(i), done(with(l, i, pack{p.b, true})))
		}
		expect(t, l, mark(-1), refused(l))
		expect(t, l, mark(n), refused(l))
	}
}

// P22.2: Spoil.
func TestSpoil(t *testing.T) {
	l := of("ab", "cd*", "", "efg")
	for _, c := range []struct {
		i, at int
		by    byte
		want  []pack
	}{
		{0, 0, 1, of("\x60b", "cd*", "", "efg")},
		{0, 1, 1, of("ac", "cd*", "", "efg")},
		{0, 0, 0, l},
		{0, 1, 255, of("a\x9d", "cd*", "", "efg")},
		{1, 0, 1, of("ab", "bd*", "", "efg")},
		{1, 1, 'd', of("ab", "c\x00*", "", "efg")},
		{1, 1, 0, l},
		{1, 0, 255, of("ab", "\x9cd*", "", "efg")},
		{1, 0, 128, of("ab", "\xe3d*", "", "efg")},
		{3, 0, 2, of("ab", "cd*", "", "gfg")},
		{3, 1, 32, of("ab", "cd*", "", "eFg")},
		{3, 2, 255, of("ab", "cd*", "", "ef\x98")},
		{3, 2, 1, of("ab", "cd*", "", "eff")},
		{3, 2, 0, l},
	} {
		expect(t, l, spoil(c.i, c.at, c.by), done(c.want))
	}
}

// P22.2: Spoil of bytes, or of packets, that do not exist.
func TestSpoilNothing(t *testing.T) {
	l := of("ab", "cd*", "", "efg")
	for _, by := range []byte{0, 1, 255} {
		for i, n := range []int{2, 2, 0, 3} {
			for _, at := range append(wild(), -1, n, n+1) {
				expect(t, l, spoil(i, at, by), refused(l))
			}
		}
		for _, at := range append(wild(), -1, 0, 1) {
			for _, i := range append(wild(), -1, 4, 5) {
				expect(t, l, spoil(i, at, by), refused(l))
			}
			expect(t, nil, spoil(0, at, by), refused(nil))
			expect(t, of(""), spoil(0, at, by), refused(of("")))
			expect(t, of("*"), spoil(0, at, by), refused(of("*")))
			expect(t, of("ab"), spoil(1, at, by), refused(of("ab")))
			expect(t, of("ab"), spoil(-1, at, by), refused(of("ab")))
		}
	}
}

// P22.2: each byte of a packet of 2000 bytes, and each packet of 64; twice by the same it is as it was.
func TestSpoilEverywhere(t *testing.T) {
	b := text(3, 2000)
	spoiled := func(b string, at int, by byte) string { return b[:at] + string([]byte{b[at] ^ by}) + b[at+1:] }
	for at := range b {
		by := byte(at)
		l := []pack{{b, at%2 == 0}, {b, false}}
		m := []pack{{spoiled(b, at, by), at%2 == 0}, {b, false}}
		expect(t, l, spoil(0, at, by), done(m))
		expect(t, m, spoil(0, at, by), done(l))
	}
	expect(t, []pack{{b: b}}, spoil(0, -1, 1), refused([]pack{{b: b}}))
	expect(t, []pack{{b: b}}, spoil(0, 2000, 1), refused([]pack{{b: b}}))
	l := many(64)
	for i, p := range l {
		for at := range p.b {
			m := with(l, i, pack{spoiled(p.b, at, 255), p.marked})
			expect(t, l, spoil(i, at, 255), done(m))
			expect(t, m, spoil(i, at, 255), done(l))
			expect(t, l, spoil(i, at, 0), done(l))
		}
		expect(t, l, spoil(i, -1, 255), refused(l))
		expect(t, l, spoil(i, len(p.b), 255), refused(l))
	}
}

// P22.2: by each number, a byte of each value.
func TestSpoilBy(t *testing.T) {
	for n := range 256 {
		for by := range 256 {
			a := spoil(1, 1, byte(by)).call([]api.Packet{{B: []byte("ab")}, {B: []byte{7, byte(n), 9}, Marked: true}}, nil)
			want := done([]pack{{"ab", false}, {string([]byte{7, byte(n ^ by), 9}), true}})
			if !a.outcome().equal(want) {
				t.Fatalf("%d by %d: %v", n, by, a.outcome())
			}
		}
	}
}

// P22.1, P22.2: a lane that is not valid is returned as it is, whatever else is asked for.
func TestNotValid(t *testing.T) {
	for _, l := range invalid() {
		last := len(l) - 1
		for _, b := range []string{"", "ab", text(9, 2000), text(9, 2001)} {
			expect(t, l, push(b), refused(l))
		}
		for _, i := range []int{-1, 0, last / 2, last, last + 1} {
			expect(t, l, take(i), refused(l))
			expect(t, l, twice(i), refused(l))
			expect(t, l, mark(i), refused(l))
			for _, at := range []int{-1, 0, 1, 2000, 2001} {
				expect(t, l, spoil(i, at, 1), refused(l))
			}
		}
	}
}

// P1, P22.1, P22.2: indexes far from any that there are.
func TestWild(t *testing.T) {
	for _, l := range []named{valid(), invalid()} {
		for _, l := range l {
			for _, i := range wild() {
				if i > len(l) || i < 0 {
					expect(t, l, take(i), refused(l))
					expect(t, l, twice(i), refused(l))
					expect(t, l, mark(i), refused(l))
					expect(t, l, spoil(i, 0, 1), refused(l))
				}
				if i < 0 || i > 2000 {
					expect(t, l, spoil(0, i, 1), refused(l))
				}
			}
		}
	}
}

// R3: where what is given shares memory with itself, the answer does not.
func TestShared(t *testing.T) {
	for _, o := range []op{
		push("bcd"), take(0), take(1), take(2), twice(0), twice(2), mark(1), spoil(0, 2, 1), spoil(1, 0, 1), spoil(2, 1, 1), // those that are done
		take(3), twice(-1), mark(3), spoil(1, 3, 1), // those that are not
	} {
		b := []byte("abcdef")
		l := []api.Packet{{B: b[:3]}, {B: b[1:4], Marked: true}, {B: b}}
		want := o.expected(of("abc", "bcd*", "abcdef"))
		a := o.call(l, b[1:4])
		if !a.outcome().equal(want) || string(b) != "abcdef" || !slices.Equal(seen(l), of("abc", "bcd*", "abcdef")) {
			t.Errorf("%s: %v instead of %v, %q", o.describe(nil), a.outcome(), want, b)
		}
		copy(b, "??????")
		if !a.outcome().equal(want) {
			t.Errorf("%s: the answer changes with what was given", o.describe(nil))
		}
		expectApart(t, o.describe(nil), a)
	}
}

// R3: the same with too many packets, all of the same bytes.
func TestSharedNotValid(t *testing.T) {
	for _, n := range []int{3, 65} {
		b := []byte(text(1, 2001))
		l := slices.Repeat([]api.Packet{{B: b}}, n)
		for _, o := range []op{push("a"), take(0), twice(0), mark(0), spoil(0, 0, 1)} {
			a := o.call(l, b[:1])
			if a.ok || !a.outcome().equal(refused(seen(l))) {
				t.Errorf("%s: %v", o.describe(nil), a.outcome())
			}
			expectApart(t, o.describe(nil), a)
			if string(b) != text(1, 2001) {
				t.Errorf("%s: what was given changes with the answer", o.describe(nil))
			}
		}
	}
}

// P22.2, R3: the copy that Twice appends is a packet of its own for the calls that follow.
func TestTwiceApart(t *testing.T) {
	l, _ := lane.Twice(given(of("ab", "cd")), 0)
	m, ok := lane.Spoil(l, 2, 1, 1)
	if want := done(of("ab", "cd", "ac")); !(answer{l: m, ok: ok}).outcome().equal(want) {
		t.Errorf("the copy is spoiled: %v", seen(m))
	}
	m, ok = lane.Spoil(l, 0, 1, 1)
	if want := done(of("ac", "cd", "ab")); !(answer{l: m, ok: ok}).outcome().equal(want) {
		t.Errorf("the first one is spoiled: %v", seen(m))
	}
	m, ok = lane.Mark(l, 2)
	if want := done(of("ab", "cd", "ab*")); !(answer{l: m, ok: ok}).outcome().equal(want) {
		t.Errorf("the copy is marked: %v", seen(m))
	}
	m, ok = lane.Mark(l, 0)
	if want := done(of("ab*", "cd", "ab")); !(answer{l: m, ok: ok}).outcome().equal(want) {
		t.Errorf("the first one is marked: %v", seen(m))
	}
	if !slices.Equal(seen(l), of("ab", "cd", "ab")) {
		t.Errorf("what was given is changed: %v", seen(l))
	}
}

// R5: lanes that the same one was made into go their own ways, also where it has more capacity than length.
func TestBranches(t *testing.T) {
	l, _ := lane.Push(make([]api.Packet, 0, 50), []byte("ab"))
	for range 5 { // the capacity of an answer need not be its length
		l, _ = lane.Push(l, []byte("cd"))
		x, _ := lane.Push(l, []byte("x"))
		y, _ := lane.Push(l, []byte("y"))
		z, _ := lane.Twice(l, 0)
		u, p, _ := lane.Take(l, 0)
		v, _ := lane.Push(u, []byte("v"))
		last := len(l)
		if string(x[last].B) != "x" || string(y[last].B) != "y" || string(z[last].B) != "ab" || string(p.B) != "ab" || string(v[last-1].B) != "v" || string(l[last-1].B) != "cd" {
			t.Errorf("%d packets: %v %v %v %v", last, seen(x), seen(y), seen(z), seen(v))
		}
	}
}

// P22.1, P22.2: the document's example.
func TestExample(t *testing.T) {
	l, ok := lane.Push(nil, []byte("ab"))
	l, ok2 := lane.Twice(l, 0)
	if !ok || !ok2 || !slices.Equal(seen(l), of("ab", "ab")) {
		t.Fatalf("%v %v %v", ok, ok2, seen(l))
	}
	for i := range 2 {
		m, p, ok := lane.Take(l, i)
		if a := (answer{m, p, ok}); !a.outcome().equal(taken(of("ab"), pack{"ab", false})) {
			t.Errorf("take %d: %v", i, a.outcome())
		}
	}
}
