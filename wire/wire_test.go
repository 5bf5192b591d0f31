package wire_test

import (
	"bytes"
	"encoding/binary"
	"fmt"
	"hash/adler32"
	"math"
	"slices"
	"testing"

	"fourinhand/api"
	"fourinhand/wire"
)

// fixed is how many bytes an encoding has at least: the checksum, the fields, and the number of Sacks.
const fixed = 36

// stream returns the first n bytes of a stream in which any 251 bytes in a row differ.
func stream(n int) []byte {
	b := make([]byte, n)
	for i := range b {
		b[i] = byte(i%251 + 1)
	}
	return b
}

// dice returns a function that returns numbers from 0 on below n, which depend on the seed only.
func dice(seed uint64) func(n int) int {
	state := seed*2862933555777941757 + 3037000493
	return func(n int) int {
		state = state*6364136223846793005 + 1442695040888963407
		return int(state>>33) % n
	}
}

// equal reports whether two segments are the same, whether or not an empty list is nil.
func equal(s, x api.Seg) bool {
	return s.Kind == x.Kind && s.Sub == x.Sub && s.Fin == x.Fin && s.Ecn == x.Ecn &&
		s.Seq == x.Seq && s.Dsn == x.Dsn && s.Got == x.Got && s.Dgot == x.Dgot &&
		s.Win == x.Win && s.Ace == x.Ace && s.Ce == x.Ce && s.At == x.At && s.Echo == x.Echo &&
		slices.Equal(s.Sacks, x.Sacks) && bytes.Equal(s.B, x.B)
}

// isZero reports whether a segment is the zero value, but for empty lists.
func isZero(s api.Seg) bool { return equal(s, api.Seg{}) }

// show describes a segment without telling thousands of bytes.
func show(s api.Seg) string {
	n := len(s.B)
	s.B = s.B[:min(n, 9)]
	return fmt.Sprintf("%+v (%d bytes)", s, n)
}

// sealed returns the bytes with their checksum, by Go's library, ahead of them.
func sealed(b []byte) []byte {
	return append(binary.BigEndian.AppendUint32(nil, adler32.Checksum(b)), b...)
}

// body returns what follows the checksum in the encoding of a valid segment, as the document defines it.
func body(s api.Seg) []byte {
	second := 4 * s.Ace
	if s.Fin {
		second++
	}
	if s.Ecn {
		second += 2
	}
	b := []byte{byte(16*s.Kind + s.Sub), byte(second)}
	b = binary.BigEndian.AppendUint16(b, uint16(s.Win))
	for _, n := range []uint32{s.Seq, s.Dsn, s.Got, s.Dgot} {
		b = binary.BigEndian.AppendUint32(b, n)
	}
	b = append(b, byte(s.Ce/65536), byte(s.Ce/256%256), byte(s.Ce%256))
	b = binary.BigEndian.AppendUint32(b, s.At)
	b = binary.BigEndian.AppendUint32(b, s.Echo)
	b = append(b, byte(len(s.Sacks)))
	for _, p := range s.Sacks {
		b = binary.BigEndian.AppendUint32(b, p.From)
		b = binary.BigEndian.AppendUint32(b, p.Upto)
	}
	return append(b, s.B...)
}

// empty returns what follows the checksum in the encoding of the zero value, with some bytes set: the first number of each pair is an index, the second one the byte.
func empty(set ...int) []byte {
	b := make([]byte, fixed-4)
	for i := 0; i < len(set); i += 2 {
		b[set[i]] = byte(set[i+1])
	}
	return b
}

// filled returns a segment in which every field is set, each byte of its encoding is another one, and there are 3 Sacks and the bytes "hello".
func filled() api.Seg {
	return api.Seg{
		Kind: api.Ack, Sub: 2, Fin: true, Ecn: true, Seq: 0x12131415, Dsn: 0x22232425, Got: 0x35363738, Dgot: 0x45464748,
		Win: 0xABCD, Ace: 5, Ce: 0x515253, At: 0x71727374, Echo: 0x81828384,
		Sacks: []api.Pair{{From: 0x91929394, Upto: 0x95969798}, {From: 0xA1A2A3A4, Upto: 0xA5A6A7A8}, {From: 0xB1B2B3B4, Upto: 0xB5B6B7B8}},
		B:     []byte("hello"),
	}
}

// filledFields is what follows the checksum in the encoding of filled, up to the number of Sacks.
func filledFields() []byte {
	return []byte{
		0x32, 0x17, 0xAB, 0xCD, // 16 * 3 + 2; 4 * 5 + 1 + 2; Win
		0x12, 0x13, 0x14, 0x15, 0x22, 0x23, 0x24, 0x25, // Seq, Dsn
		0x35, 0x36, 0x37, 0x38, 0x45, 0x46, 0x47, 0x48, // Got, Dgot
		0x51, 0x52, 0x53, // Ce
		0x71, 0x72, 0x73, 0x74, 0x81, 0x82, 0x83, 0x84, // At, Echo
	}
}

// filledSacks are the three Sacks of filled in its encoding, and their number.
func filledSacks() []byte {
	return []byte{
		3,
		0x91, 0x92, 0x93, 0x94, 0x95, 0x96, 0x97, 0x98,
		0xA1, 0xA2, 0xA3, 0xA4, 0xA5, 0xA6, 0xA7, 0xA8,
		0xB1, 0xB2, 0xB3, 0xB4, 0xB5, 0xB6, 0xB7, 0xB8,
	}
}

// greatest returns the valid segment of which all fields are as great, and all lists as long, as they may be.
func greatest() api.Seg {
	pair := api.Pair{From: math.MaxUint32, Upto: math.MaxUint32}
	return api.Seg{
		Kind: 4, Sub: 3, Fin: true, Ecn: true, Seq: math.MaxUint32, Dsn: math.MaxUint32, Got: math.MaxUint32, Dgot: math.MaxUint32,
		Win: 65535, Ace: 7, Ce: 1<<24 - 1, At: math.MaxUint32, Echo: math.MaxUint32,
		Sacks: []api.Pair{pair, pair, pair}, B: bytes.Repeat([]byte{255}, 1460),
	}
}

// valid returns valid segments, among them those with the greatest and the smallest value of each field.
func valid() []api.Seg {
	plain := filled()
	plain.Sacks, plain.B = nil, nil
	long := filled()
	long.B = stream(1460)
	l := []api.Seg{
		{}, {Sacks: []api.Pair{}, B: []byte{}}, filled(), plain, long, greatest(),
		{Kind: api.Join}, {Kind: api.Joined}, {Kind: api.Data}, {Kind: api.Ack}, {Kind: api.Reset},
		{Sub: 1}, {Sub: 2}, {Sub: 3}, {Kind: 4, Sub: 3}, {Fin: true}, {Ecn: true}, {Fin: true, Ecn: true},
		{Win: 1}, {Win: 255}, {Win: 256}, {Win: 65534}, {Win: 65535},
		{Ace: 1}, {Ace: 2}, {Ace: 3}, {Ace: 4}, {Ace: 5}, {Ace: 6}, {Ace: 7},
		{Ce: 1}, {Ce: 255}, {Ce: 256}, {Ce: 65535}, {Ce: 65536}, {Ce: 1<<24 - 2}, {Ce: 1<<24 - 1},
		{Sacks: make([]api.Pair, 1)}, {Sacks: make([]api.Pair, 2)}, {Sacks: make([]api.Pair, 3)},
		// The ends of Sacks may be any numbers.
		{Sacks: []api.Pair{{From: 9, Upto: 3}, {From: 1, Upto: 1}, {From: math.MaxUint32, Upto: 0}}},
		{B: []byte{0}}, {B: []byte("a")}, {B: make([]byte, 1459)}, {B: stream(1459)}, {B: make([]byte, 1460)}, {B: stream(1460)},
		{Kind: 4, Fin: true, B: []byte("a")}, {Kind: 2},
	}
	for _, n := range []uint32{1, 255, 256, 65536, 1 << 24, 1<<31 - 1, 1 << 31, math.MaxUint32} {
		l = append(l, api.Seg{Seq: n}, api.Seg{Dsn: n}, api.Seg{Got: n}, api.Seg{Dgot: n}, api.Seg{At: n}, api.Seg{Echo: n})
		l = append(l, api.Seg{Sacks: []api.Pair{{From: n}}}, api.Seg{Sacks: []api.Pair{{Upto: n}}})
	}
	return l
}

// invalid returns what makes a valid segment one that is not valid, by why it is that.
func invalid() map[string]func(s *api.Seg) {
	return map[string]func(s *api.Seg){
		"a Kind of 5":             func(s *api.Seg) { s.Kind = api.Kinds },
		"a Kind of 6":             func(s *api.Seg) { s.Kind = 6 },
		"a Kind of 15":            func(s *api.Seg) { s.Kind = 15 },
		"a Kind of 16":            func(s *api.Seg) { s.Kind = 16 },
		"a Kind of 256":           func(s *api.Seg) { s.Kind = 256 },
		"a Kind of 2^32":          func(s *api.Seg) { s.Kind = 1 << 32 },
		"a Kind of 2^60":          func(s *api.Seg) { s.Kind = 1 << 60 },
		"the greatest Kind":       func(s *api.Seg) { s.Kind = math.MaxInt },
		"a Kind of -1":            func(s *api.Seg) { s.Kind = -1 },
		"a Kind of -16":           func(s *api.Seg) { s.Kind = -16 },
		"the least Kind":          func(s *api.Seg) { s.Kind = math.MinInt },
		"a Sub of 4":              func(s *api.Seg) { s.Sub = api.Subs },
		"a Sub of 5":              func(s *api.Seg) { s.Sub = 5 },
		"a Sub of 16":             func(s *api.Seg) { s.Sub = 16 },
		"a Sub of 256":            func(s *api.Seg) { s.Sub = 256 },
		"a Sub of 2^32":           func(s *api.Seg) { s.Sub = 1 << 32 },
		"the greatest Sub":        func(s *api.Seg) { s.Sub = math.MaxInt },
		"a Sub of -1":             func(s *api.Seg) { s.Sub = -1 },
		"a Sub of -16":            func(s *api.Seg) { s.Sub = -16 },
		"the least Sub":           func(s *api.Seg) { s.Sub = math.MinInt },
		"a Win of -1":             func(s *api.Seg) { s.Win = -1 },
		"a Win of -65536":         func(s *api.Seg) { s.Win = -65536 },
		"the least Win":           func(s *api.Seg) { s.Win = math.MinInt },
		"a Win of 65536":          func(s *api.Seg) { s.Win = 65536 },
		"a Win of 2^32":           func(s *api.Seg) { s.Win = 1 << 32 },
		"the greatest Win":        func(s *api.Seg) { s.Win = math.MaxInt },
		"an Ace of 8":             func(s *api.Seg) { s.Ace = 8 },
		"an Ace of 9":             func(s *api.Seg) { s.Ace = 9 },
		"an Ace of 64":            func(s *api.Seg) { s.Ace = 64 },
		"an Ace of 2^32":          func(s *api.Seg) { s.Ace = 1 << 32 },
		"an Ace of 2^62":          func(s *api.Seg) { s.Ace = 1 << 62 },
		"the greatest Ace":        func(s *api.Seg) { s.Ace = math.MaxInt },
		"an Ace of -1":            func(s *api.Seg) { s.Ace = -1 },
		"an Ace of -64":           func(s *api.Seg) { s.Ace = -64 },
		"the least Ace":           func(s *api.Seg) { s.Ace = math.MinInt },
		"a Ce of 2^24":            func(s *api.Seg) { s.Ce = 1 << 24 },
		"a Ce of 2^24 + 1":        func(s *api.Seg) { s.Ce = 1<<24 + 1 },
		"a Ce of 2^31":            func(s *api.Seg) { s.Ce = 1 << 31 },
		"the greatest Ce":         func(s *api.Seg) { s.Ce = math.MaxUint32 },
		"four Sacks":              func(s *api.Seg) { s.Sacks = make([]api.Pair, 4) },
		"255 Sacks":               func(s *api.Seg) { s.Sacks = make([]api.Pair, 255) },
		"256 Sacks":               func(s *api.Seg) { s.Sacks = make([]api.Pair, 256) },
		"257 Sacks":               func(s *api.Seg) { s.Sacks = make([]api.Pair, 257) },
		"1461 bytes":              func(s *api.Seg) { s.B = make([]byte, 1461) },
		"1462 bytes":              func(s *api.Seg) { s.B = stream(1462) },
		"70000 bytes":             func(s *api.Seg) { s.B = stream(70000) },
		"a Kind of 4, Sub of -16": func(s *api.Seg) { s.Kind, s.Sub = 4, -16 },
		"a Kind of 5, Sub of -16": func(s *api.Seg) { s.Kind, s.Sub = 5, -16 },
		"a Kind of 3, Sub of 16":  func(s *api.Seg) { s.Kind, s.Sub = 3, 16 },
		"a Kind of -1, Sub of 16": func(s *api.Seg) { s.Kind, s.Sub = -1, 16 },
		"all that may not be": func(s *api.Seg) {
			s.Kind, s.Sub, s.Win, s.Ace, s.Ce, s.Sacks, s.B = 5, 4, 65536, 8, 1<<24, make([]api.Pair, 4), stream(1461)
		},
	}
}

// expectPut checks what follows the checksum in the encoding of s, and the checksum.
func expectPut(t *testing.T, why string, s api.Seg, want []byte) {
	t.Helper()
	b, e := wire.Put(s)
	if e != api.OK || !bytes.Equal(b, sealed(want)) {
		t.Errorf("%s: %v %d instead of %v", why, b, e, sealed(want))
	}
}

// expectGet checks that b has the encoding of the valid segment want.
func expectGet(t *testing.T, why string, b []byte, want api.Seg) {
	t.Helper()
	s, e := wire.Get(b)
	if e != api.OK || !equal(s, want) {
		t.Errorf("%s: %s %d instead of %s", why, show(s), e, show(want))
	}
}

// expectNone checks that Get returns the error and the zero value.
func expectNone(t *testing.T, why string, b []byte, want api.Errno) {
	t.Helper()
	s, e := wire.Get(b)
	if e != want || !isZero(s) {
		t.Errorf("%s: %s %d instead of %d", why, show(s), e, want)
	}
}

// P7.1: May of valid segments.
func TestMayValid(t *testing.T) {
	for _, s := range valid() {
		if !wire.May(s) {
			t.Errorf("valid: %s", show(s))
		}
	}
}

// P7.1: segments that are not valid, of which the fields otherwise are zero, set or as great as they may be: May, and ErrArg of Put without bytes.
func TestInvalid(t *testing.T) {
	for why, spoil := range invalid() {
		for _, s := range []api.Seg{{}, filled(), greatest()} {
			spoil(&s)
			if wire.May(s) {
				t.Errorf("not valid: %s", why)
			}
			if b, e := wire.Put(s); e != api.ErrArg || len(b) != 0 {
				t.Errorf("%s: %v %d", why, b, e)
			}
		}
	}
}

// P7.1: May of all values in and about the range of each field.
func TestMayRanges(t *testing.T) {
	for n := -70; n < 70; n++ {
		for _, c := range []struct {
			field string
			s     api.Seg
			count int
		}{
			{"Kind", api.Seg{Kind: n}, 5}, {"Sub", api.Seg{Sub: n}, 4}, {"Ace", api.Seg{Ace: n}, 8}, {"Win", api.Seg{Win: n}, 65536},
		} {
			if wire.May(c.s) != (0 <= n && n < c.count) {
				t.Errorf("%s %d: %v", c.field, n, wire.May(c.s))
			}
		}
	}
	for n := range 10 {
		if wire.May(api.Seg{Sacks: make([]api.Pair, n)}) != (n <= 3) {
			t.Errorf("%d Sacks", n)
		}
	}
	for n := 1450; n < 1470; n++ {
		if wire.May(api.Seg{B: make([]byte, n)}) != (n <= 1460) {
			t.Errorf("%d bytes", n)
		}
	}
	for n := 65500; n < 65600; n++ {
		if wire.May(api.Seg{Win: n}) != (n <= 65535) {
			t.Errorf("Win %d", n)
		}
	}
}

// P7.1: the document's example. A is 1 + 65, and B is 32 times that, since the byte is the first one of 32.
func TestPutExample(t *testing.T) {
	b, e := wire.Put(api.Seg{Kind: api.Reset, Sub: 1})
	want := append([]byte{8, 64, 0, 66, 65}, make([]byte, 31)...)
	if e != api.OK || len(b) != 36 || !bytes.Equal(b, want) {
		t.Errorf("%v %d", b, e)
	}
	expectGet(t, "the example", want, api.Seg{Kind: api.Reset, Sub: 1})
}

// P7.1: the encoding of the zero value; A is 1 and B is 32.
func TestPutZero(t *testing.T) {
	b, e := wire.Put(api.Seg{})
	if want := append([]byte{0, 32, 0, 1}, make([]byte, 32)...); e != api.OK || !bytes.Equal(b, want) {
		t.Errorf("%v %d", b, e)
	}
}

// P7.1: each field by itself, at its place in the encoding.
func TestPutFields(t *testing.T) {
	for why, c := range map[string]struct {
		s    api.Seg
		want []byte
	}{
		"Joined":           {api.Seg{Kind: api.Joined}, empty(0, 16)},
		"Data":             {api.Seg{Kind: api.Data}, empty(0, 32)},
		"Ack":              {api.Seg{Kind: api.Ack}, empty(0, 48)},
		"Reset":            {api.Seg{Kind: api.Reset}, empty(0, 64)},
		"Sub":              {api.Seg{Sub: 3}, empty(0, 3)},
		"Kind and Sub":     {api.Seg{Kind: api.Reset, Sub: 3}, empty(0, 67)},
		"Fin":              {api.Seg{Fin: true}, empty(1, 1)},
		"Ecn":              {api.Seg{Ecn: true}, empty(1, 2)},
		"Fin and Ecn":      {api.Seg{Fin: true, Ecn: true}, empty(1, 3)},
		"Ace of 1":         {api.Seg{Ace: 1}, empty(1, 4)},
		"Ace of 7":         {api.Seg{Ace: 7}, empty(1, 28)},
		"Ace and Fin":      {api.Seg{Ace: 7, Fin: true}, empty(1, 29)},
		"Ace and Ecn":      {api.Seg{Ace: 7, Ecn: true}, empty(1, 30)},
		"Ace and both":     {api.Seg{Ace: 7, Fin: true, Ecn: true}, empty(1, 31)},
		"Win":              {api.Seg{Win: 0x0102}, empty(2, 1, 3, 2)},
		"Win of 65535":     {api.Seg{Win: 65535}, empty(2, 255, 3, 255)},
		"Seq":              {api.Seg{Seq: 0x01020304}, empty(4, 1, 5, 2, 6, 3, 7, 4)},
		"Dsn":              {api.Seg{Dsn: 0x01020304}, empty(8, 1, 9, 2, 10, 3, 11, 4)},
		"Got":              {api.Seg{Got: 0x01020304}, empty(12, 1, 13, 2, 14, 3, 15, 4)},
		"Dgot":             {api.Seg{Dgot: 0x01020304}, empty(16, 1, 17, 2, 18, 3, 19, 4)},
		"Ce":               {api.Seg{Ce: 0x010203}, empty(20, 1, 21, 2, 22, 3)},
		"Ce of 2^24 - 1":   {api.Seg{Ce: 1<<24 - 1}, empty(20, 255, 21, 255, 22, 255)},
		"At":               {api.Seg{At: 0x01020304}, empty(23, 1, 24, 2, 25, 3, 26, 4)},
		"Echo":             {api.Seg{Echo: 0x01020304}, empty(27, 1, 28, 2, 29, 3, 30, 4)},
		"the greatest Seq": {api.Seg{Seq: math.MaxUint32}, empty(4, 255, 5, 255, 6, 255, 7, 255)},
		"one Sack":         {api.Seg{Sacks: []api.Pair{{From: 5, Upto: 6}}}, append(empty(31, 1), 0, 0, 0, 5, 0, 0, 0, 6)},
		"a Sack of zeros":  {api.Seg{Sacks: make([]api.Pair, 1)}, append(empty(31, 1), 0, 0, 0, 0, 0, 0, 0, 0)},
		"two Sacks": {
			api.Seg{Sacks: []api.Pair{{From: 9, Upto: 0x01020304}, {From: 0x05060708, Upto: 2}}},
			append(empty(31, 2), 0, 0, 0, 9, 1, 2, 3, 4, 5, 6, 7, 8, 0, 0, 0, 2),
		},
		"bytes":            {api.Seg{B: []byte("hi")}, append(empty(), 'h', 'i')},
		"a byte of 0":      {api.Seg{B: []byte{0}}, append(empty(), 0)},
		"a Sack and bytes": {api.Seg{Sacks: []api.Pair{{From: 5, Upto: 6}}, B: []byte("hi")}, append(empty(31, 1), 0, 0, 0, 5, 0, 0, 0, 6, 'h', 'i')},
	} {
		expectPut(t, why, c.s, c.want)
		expectGet(t, why, sealed(c.want), c.s)
	}
}

// P7.1: every field set, with three Sacks and none, and with no bytes, some and 1460.
func TestPutFilled(t *testing.T) {
	for _, b := range [][]byte{nil, {}, []byte("hello"), stream(1460)} {
		s := filled()
		s.B = b
		want := slices.Concat(filledFields(), filledSacks(), b)
		expectPut(t, fmt.Sprintf("three Sacks and %d bytes", len(b)), s, want)
		expectGet(t, fmt.Sprintf("three Sacks and %d bytes", len(b)), sealed(want), s)
		for _, none := range [][]api.Pair{nil, {}} {
			s.Sacks = none
			want = slices.Concat(filledFields(), []byte{0}, b)
			expectPut(t, fmt.Sprintf("no Sacks and %d bytes", len(b)), s, want)
			expectGet(t, fmt.Sprintf("no Sacks and %d bytes", len(b)), sealed(want), s)
		}
	}
}

// P7.1: the longest encoding.
func TestPutGreatest(t *testing.T) {
	want := bytes.Repeat([]byte{255}, 32+24+1460)
	want[0], want[1], want[31] = 67, 31, 3
	expectPut(t, "the greatest", greatest(), want)
	expectGet(t, "the greatest", sealed(want), greatest())
}

// P7.1: Put of valid segments is their encoding by the definition.
func TestPutDefined(t *testing.T) {
	for _, s := range valid() {
		expectPut(t, show(s), s, body(s))
	}
}

// P7.2: fewer than four bytes are ErrForm, also where the bytes behind them in memory would make them an encoding.
func TestGetShort(t *testing.T) {
	for _, b := range [][]byte{
		nil, {}, {0}, {1}, {255}, {0, 0}, {0, 1}, {0, 0, 0}, {0, 0, 1}, {8, 64, 0}, make([]byte, 3, 40),
	} {
		expectNone(t, "fewer than four bytes", b, api.ErrForm)
	}
	whole, _ := wire.Put(filled())
	for n := range 4 {
		expectNone(t, "fewer than four bytes of an encoding", whole[:n], api.ErrForm)
	}
}

// P7.2: a checksum that is wrong is ErrSum, whether or not what follows it could be a segment.
func TestGetSum(t *testing.T) {
	for why, b := range map[string][]byte{
		"four bytes":               {0, 0, 0, 0},
		"five bytes":               {0, 0, 0, 1, 7},
		"the sum of one more byte": append(sealed(make([]byte, 33))[:4:4], make([]byte, 32)...),
		"the fields, no checksum":  make([]byte, fixed),
		"bytes cut off":            sealed(body(filled()))[:fixed],
		"the last byte cut off":    sealed(body(filled()))[:fixed+24+4],
		"a byte too many":          append(sealed(body(filled())), 1),
		"a byte of 0 too many":     append(sealed(body(filled())), 0),
		"a wrong Kind":             append([]byte{0, 0, 0, 0}, empty(0, 80)...),
		"a wrong Sub":              append([]byte{0, 0, 0, 0}, empty(0, 4)...),
		"a wrong second byte":      append([]byte{0, 0, 0, 0}, empty(1, 32)...),
		"too many Sacks":           append([]byte{0, 0, 0, 0}, empty(31, 4)...),
		"Sacks that are missing":   append([]byte{0, 0, 0, 0}, empty(31, 1)...),
		"too many bytes":           make([]byte, fixed+1461),
		"no checksum":              body(filled()),
		"a checksum of A only":     append([]byte{0, 0, 0, 1}, make([]byte, 32)...),
		"the checksum reversed":    append([]byte{1, 0, 32, 0}, make([]byte, 32)...),
		"the checksum at the end":  append(make([]byte, 32), 0, 32, 0, 1),
	} {
		expectNone(t, why, b, api.ErrSum)
	}
}

// P7.2: the right checksum of bytes that are too short for the fields is ErrForm.
func TestGetFieldsMissing(t *testing.T) {
	expectNone(t, "the checksum of no bytes", []byte{0, 0, 0, 1}, api.ErrForm)
	for n := range fixed - 4 {
		expectNone(t, fmt.Sprintf("%d bytes of the fields", n), sealed(body(filled())[:n]), api.ErrForm)
		expectNone(t, fmt.Sprintf("%d zeros", n), sealed(make([]byte, n)), api.ErrForm)
	}
	expectGet(t, "32 zeros", sealed(make([]byte, 32)), api.Seg{})
}

// P7.2: bytes that end within the Sacks are ErrForm.
func TestGetSacksMissing(t *testing.T) {
	for count := 1; count <= 3; count++ {
		for n := range 8*count + 1 {
			b := sealed(append(empty(31, count), stream(n)...))
			if n < 8*count {
				expectNone(t, fmt.Sprintf("%d bytes for %d Sacks", n, count), b, api.ErrForm)
			} else if s, e := wire.Get(b); e != api.OK || len(s.Sacks) != count || len(s.B) != 0 {
				t.Errorf("%d Sacks: %s %d", count, show(s), e)
			}
		}
	}
}

// P7.2: more than three Sacks are ErrForm, whether or not there are bytes for them.
func TestGetSacksMany(t *testing.T) {
	for count := 4; count < 256; count++ {
		for _, n := range []int{0, 1, 24, 8*count - 1, 8 * count, 8*count + 1, 3000} {
			expectNone(t, fmt.Sprintf("%d bytes for %d Sacks", n, count), sealed(append(empty(31, count), make([]byte, n)...)), api.ErrForm)
		}
	}
}

// P7.2: each value that the first byte may have.
func TestGetFirst(t *testing.T) {
	for n := range 256 {
		b := sealed(empty(0, n))
		if n/16 <= 4 && n%16 <= 3 {
			expectGet(t, fmt.Sprintf("a first byte of %d", n), b, api.Seg{Kind: n / 16, Sub: n % 16})
		} else {
			expectNone(t, fmt.Sprintf("a first byte of %d", n), b, api.ErrForm)
		}
	}
}

// P7.2: each value that the second byte may have; three bits of it are of no field.
func TestGetSecond(t *testing.T) {
	for n := range 256 {
		b := sealed(empty(1, n))
		if n < 32 {
			expectGet(t, fmt.Sprintf("a second byte of %d", n), b, api.Seg{Ace: n / 4, Fin: n%2 == 1, Ecn: n/2%2 == 1})
		} else {
			expectNone(t, fmt.Sprintf("a second byte of %d", n), b, api.ErrForm)
		}
	}
}

// P7.2: up to 1460 bytes behind the Sacks, and more.
func TestGetBytes(t *testing.T) {
	for _, sacks := range [][]api.Pair{nil, make([]api.Pair, 3)} {
		for _, n := range []int{0, 1, 2, 8, 1459, 1460, 1461, 1462, 1468, 2000, 70000} {
			s := api.Seg{Kind: api.Data, Sacks: sacks, B: stream(n)}
			if n <= 1460 {
				expectGet(t, fmt.Sprintf("%d bytes", n), sealed(body(s)), s)
			} else {
				expectNone(t, fmt.Sprintf("%d bytes", n), sealed(body(s)), api.ErrForm)
			}
		}
	}
}

// P7.2: no field of a segment that is not complete, or not valid, is returned with ErrForm.
func TestGetNothing(t *testing.T) {
	b := body(filled())
	for n := range fixed - 4 + 24 {
		expectNone(t, fmt.Sprintf("%d bytes", n), sealed(b[:n]), api.ErrForm)
	}
	for i, by := range map[int]byte{0: 0x80, 1: 0x80, 31: 4} {
		c := bytes.Clone(b)
		c[i] ^= by
		expectNone(t, fmt.Sprintf("byte %d", i), sealed(c), api.ErrForm)
	}
}

// P7.3: what was encoded is decoded, and encoding it yields the same bytes again.
func TestRoundTrip(t *testing.T) {
	for _, s := range valid() {
		b, _ := wire.Put(s)
		expectGet(t, show(s), b, s)
		g, _ := wire.Get(b)
		if c, e := wire.Put(g); e != api.OK || !bytes.Equal(c, b) || !wire.May(g) {
			t.Errorf("%s: %v %d instead of %v", show(s), c, e, b)
		}
	}
}

// drawn returns a valid segment that depends on the dice.
func drawn(throw func(n int) int) api.Seg {
	number := func() uint32 { return uint32(throw(1<<16)<<16 | throw(1<<16)) }
	s := api.Seg{
		Kind: throw(5), Sub: throw(4), Fin: throw(2) == 0, Ecn: throw(2) == 0,
		Seq: number(), Dsn: number(), Got: number(), Dgot: number(),
		Win: throw(65536), Ace: throw(8), Ce: number() >> 8, At: number(), Echo: number(),
	}
	for range throw(4) {
		s.Sacks = append(s.Sacks, api.Pair{From: number(), Upto: number()})
	}
	for range []int{0, throw(9), throw(1461)}[throw(3)] {
		s.B = append(s.B, byte(throw(256)))
	}
	return s
}

// P7.1 to P7.3: many segments, encoded as defined and decoded again.
func TestRoundTripDrawn(t *testing.T) {
	throw := dice(7)
	for range 3000 {
		s := drawn(throw)
		expectPut(t, show(s), s, body(s))
		expectGet(t, show(s), sealed(body(s)), s)
	}
}

// P7.2 and P7.3: bytes with the right checksum are the encoding of the segment that Get returns, or of none at all.
func TestGetDrawn(t *testing.T) {
	throw := dice(8)
	known := 0
	for range 30000 {
		b := body(drawn(throw))
		b = b[:min(len(b), 24+throw(60))]
		for range throw(3) {
			// The first byte, of which most values may not be, is changed as often as all others together.
			b[throw(2)*throw(len(b))] = byte(throw(256))
		}
		s, e := wire.Get(sealed(b))
		switch {
		case e == api.OK && (!wire.May(s) || !bytes.Equal(body(s), b)):
			t.Errorf("%v: %s", b, show(s))
		case e != api.OK && (e != api.ErrForm || !isZero(s)):
			t.Errorf("%v: %s %d", b, show(s), e)
		case e != api.OK && mayBe(b):
			t.Errorf("%v is an encoding", b)
		case e == api.OK:
			known++
		}
	}
	if known < 3000 || known > 27000 {
		t.Errorf("%d of 30000 are encodings", known)
	}
}

// mayBe reports whether a segment has these bytes behind the checksum of its encoding.
func mayBe(b []byte) bool {
	if len(b) < 32 || b[0]/16 > 4 || b[0]%16 > 3 || b[1] > 31 || b[31] > 3 {
		return false
	}
	rest := len(b) - 32 - 8*int(b[31])
	return 0 <= rest && rest <= 1460
}

// P7.3: each byte of an encoding, changed in each way, leads to an error, and so to nothing else.
func TestGetChanged(t *testing.T) {
	for _, s := range []api.Seg{{}, {Kind: api.Reset, Sub: 1}, filled(), {Kind: api.Data, B: stream(100)}, {B: bytes.Repeat([]byte{255}, 300)}} {
		b, _ := wire.Put(s)
		for i := range b {
			for by := 1; by < 256; by++ {
				b[i] ^= byte(by)
				expectNone(t, fmt.Sprintf("byte %d of %d, changed by %d", i, len(b), by), b, api.ErrSum)
				b[i] ^= byte(by)
			}
		}
		expectGet(t, "changed back", b, s)
	}
}

// P7.3: each byte of the longest encodings, with each bit by itself changed.
func TestGetChangedLong(t *testing.T) {
	long := filled()
	long.B = stream(1460)
	for _, s := range []api.Seg{long, greatest()} {
		b, _ := wire.Put(s)
		for i := range b {
			for bit := range 8 {
				b[i] ^= 1 << bit
				expectNone(t, fmt.Sprintf("byte %d, bit %d", i, bit), b, api.ErrSum)
				b[i] ^= 1 << bit
			}
		}
		expectGet(t, "changed back", b, s)
	}
}

// R5: nothing is kept from one call to the next one, also after an error.
func TestCallsAgain(t *testing.T) {
	want := sealed(body(filled()))
	for range 3 {
		expectPut(t, "filled", filled(), body(filled()))
		expectGet(t, "filled", want, filled())
		expectNone(t, "too short", sealed(make([]byte, 20)), api.ErrForm)
		expectNone(t, "another sum", make([]byte, 40), api.ErrSum)
		if b, e := wire.Put(api.Seg{Kind: 5}); e != api.ErrArg || len(b) != 0 {
			t.Errorf("%v %d", b, e)
		}
	}
}

// within returns filled, of which the lists have other elements before and behind them in memory, and all of that memory.
func within() (s api.Seg, pairs []api.Pair, b []byte) {
	s = filled()
	other := []api.Pair{{From: 1, Upto: 2}, {From: 3, Upto: 4}}
	pairs = slices.Concat(other, s.Sacks, other)
	b = slices.Concat([]byte("<<<"), s.B, []byte(">>>>>>>>"))
	s.Sacks, s.B = pairs[2:5], b[3:8]
	return s, pairs, b
}

// overwrite changes all bytes of b, and all for which there is room behind them.
func overwrite(b []byte) {
	b = b[:cap(b)]
	for i := range b {
		b[i] ^= 0x55
	}
}

// R3: May and Put do not modify their argument, and what Put returns shares no memory with it.
func TestPutOwned(t *testing.T) {
	want := sealed(body(filled()))
	s, pairs, memory := within()
	_, pairsBefore, before := within()
	expectSame := func(call string) {
		t.Helper()
		if !equal(s, filled()) || !slices.Equal(pairs, pairsBefore) || !bytes.Equal(memory, before) {
			t.Fatalf("%s modified %s, %v or %q", call, show(s), pairs, memory)
		}
	}
	wire.May(s)
	expectSame("May")
	b, _ := wire.Put(s)
	expectSame("Put")
	overwrite(b)
	expectSame("a change of the result")
	b, _ = wire.Put(s)
	overwrite(memory)
	clear(pairs)
	if !bytes.Equal(b, want) {
		t.Errorf("the result was modified with the argument: %v", b)
	}
	s, pairs, memory = within()
	s.Kind = 5
	wire.Put(s)
	s.Kind = api.Ack
	expectSame("Put of a segment that is not valid")
}

// R3: Get does not modify its argument, nor the memory behind it, and what it returns shares no memory with it.
func TestGetOwned(t *testing.T) {
	whole := append(sealed(body(filled())), "room behind"...)
	before := bytes.Clone(whole)
	b := whole[:len(whole)-len("room behind")]
	s, e := wire.Get(b)
	if e != api.OK || !bytes.Equal(whole, before) {
		t.Fatalf("Get modified its argument: %v %d", whole, e)
	}
	overwrite(s.B)
	clear(s.Sacks[:cap(s.Sacks)])
	if !bytes.Equal(whole, before) {
		t.Errorf("the argument was modified with the result: %v", whole)
	}
	s, _ = wire.Get(b)
	overwrite(whole)
	if !equal(s, filled()) {
		t.Errorf("the result was modified with the argument: %s", show(s))
	}
	for _, bad := range [][]byte{make([]byte, 3, 9), make([]byte, 36), sealed(empty(0, 80)), sealed(empty(31, 2)), sealed(make([]byte, 9))} {
		before := bytes.Clone(bad)
		wire.Get(bad)
		if !bytes.Equal(bad, before) {
			t.Errorf("Get modified %v", before)
		}
	}
}

// R3: two results share no memory.
func TestResultsApart(t *testing.T) {
	b, _ := wire.Put(filled())
	c, _ := wire.Put(filled())
	overwrite(b)
	expectGet(t, "the other encoding", c, filled())
	s, _ := wire.Get(c)
	x, _ := wire.Get(c)
	overwrite(s.B)
	clear(s.Sacks)
	if !equal(x, filled()) {
		t.Errorf("%s", show(x))
	}
	overwrite(x.B)
	if !slices.Equal(x.Sacks, filled().Sacks) {
		t.Errorf("%v", x.Sacks)
	}
}
