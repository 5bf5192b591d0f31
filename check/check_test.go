package check_test

import (
	"bytes"
	"hash/adler32"
	"testing"

	"fourinhand/api"
	"fourinhand/check"
)

// defined is the checksum as the document defines it: the sums are exact, and reduced at the end only.
func defined(b []byte) uint32 {
	a, sum := 1, 0
	for _, c := range b {
		a += int(c)
		sum += a
	}
	return uint32(sum%65521*65536 + a%65521)
}

// mixed returns n bytes of all kinds.
func mixed(n int) []byte {
	b := make([]byte, n)
	for i := range b {
		b[i] = byte(i*i*7 + i>>3 + 5)
	}
	return b
}

func repeated(c byte, n int) []byte { return bytes.Repeat([]byte{c}, n) }

// texts are ordinary bytes, none, and enough for A and B to reach and to exceed the modulus.
func texts() [][]byte {
	l := [][]byte{nil, {}, {0}, {1}, {255}, {0, 0, 0, 0}, []byte("abc"), []byte("Wikipedia"), []byte("four in hand, on several paths at once")}
	for n := 254; n <= 260; n++ {
		l = append(l, repeated(255, n))
	}
	for n := 65518; n <= 65524; n++ {
		l = append(l, repeated(0, n))
	}
	for n := 65518; n <= 65524; n++ {
		l = append(l, repeated(1, n))
	}
	return append(l, mixed(100), mixed(1464), mixed(5552), mixed(5553), mixed(70000))
}

// P3.1: Sum, on results that were worked out by hand or are known of Adler-32.
func TestSum(t *testing.T) {
	for _, c := range []struct {
		parts [][]byte
		want  uint32
		why   string
	}{
		{nil, 1, "no parts"},
		{[][]byte{}, 1, "no parts, in an empty list"},
		{[][]byte{nil}, 1, "a nil part"},
		{[][]byte{{}}, 1, "an empty part"},
		{[][]byte{nil, {}, nil}, 1, "three empty parts"},
		{[][]byte{[]byte("abc")}, 38600999, "the document's example"},
		{[][]byte{[]byte("ab"), nil, []byte("c")}, 38600999, "an empty part between two others"},
		{[][]byte{{}, []byte("abc"), {}}, 38600999, "an empty part before, and one behind"},
		{[][]byte{[]byte("Wikipedia")}, 0x11E60398, "known"},
		{[][]byte{{0}}, 65536 + 1, "a byte of 0 counts in B"},
		{[][]byte{{1}}, 2*65536 + 2, "one byte"},
		{[][]byte{{255}}, 256*65536 + 256, "the greatest byte"},
		{[][]byte{{1, 2}}, 6*65536 + 4, "two bytes"},
		{[][]byte{{2, 1}}, 7*65536 + 4, "the same bytes in another order"},
		{[][]byte{{2}, {1}}, 7*65536 + 4, "the same bytes in that order, in two parts"},
		{[][]byte{repeated(255, 256)}, 2048*65536 + 65281, "the greatest A of these bytes that is not reduced"},
		{[][]byte{repeated(255, 256), {239}}, 2047*65536 + 65520, "A is one less than the modulus"},
		{[][]byte{repeated(255, 256), {240}}, 2048 * 65536, "A is the modulus"},
		{[][]byte{repeated(255, 256), {241}}, 2049*65536 + 1, "A is one more than the modulus"},
		{[][]byte{repeated(0, 65520)}, 65520*65536 + 1, "B is one less than the modulus"},
		{[][]byte{repeated(0, 65521)}, 1, "B is the modulus"},
		{[][]byte{repeated(0, 65522)}, 65536 + 1, "B is one more than the modulus"},
	} {
		if n := check.Sum(c.parts...); n != c.want {
			t.Errorf("%s: %d instead of %d", c.why, n, c.want)
		}
	}
}

// P3.1: Sum is what the document defines, and what the library's Adler-32 is.
func TestSumDefined(t *testing.T) {
	for _, b := range append(texts(), repeated(255, 3000000)) {
		n := check.Sum(b)
		if n != defined(b) {
			t.Errorf("%d bytes: %d instead of %d", len(b), n, defined(b))
		}
		if n != adler32.Checksum(b) {
			t.Errorf("%d bytes: %d, but Adler-32 is %d", len(b), n, adler32.Checksum(b))
		}
	}
}

// P3.1: Seal puts the checksum ahead, its greatest byte first.
func TestSeal(t *testing.T) {
	for _, c := range []struct{ b, want []byte }{
		{nil, []byte{0, 0, 0, 1}},
		{[]byte{}, []byte{0, 0, 0, 1}},
		{[]byte{0}, []byte{0, 1, 0, 1, 0}},
		{[]byte{255}, []byte{1, 0, 1, 0, 255}},
		{[]byte("abc"), []byte{2, 77, 1, 39, 'a', 'b', 'c'}},
		{[]byte("Wikipedia"), append([]byte{0x11, 0xE6, 0x03, 0x98}, "Wikipedia"...)},
	} {
		if s := check.Seal(c.b); !bytes.Equal(s, c.want) {
			t.Errorf("Seal of %v: %v instead of %v", c.b, s, c.want)
		}
	}
	for _, b := range texts() {
		n := defined(b)
		want := append([]byte{byte(n >> 24), byte(n >> 16), byte(n >> 8), byte(n)}, b...)
		if !bytes.Equal(check.Seal(b), want) {
			t.Errorf("Seal of %d bytes is not their checksum and they", len(b))
		}
	}
}

// expectOpen expects that Open of b returns these bytes and that error.
func expectOpen(t *testing.T, why string, b, want []byte, wanted api.Errno) {
	t.Helper()
	got, e := check.Open(b)
	if e != wanted || !bytes.Equal(got, want) {
		t.Errorf("%s: Open returns %d bytes and error %d instead of %d bytes and error %d", why, len(got), e, len(want), wanted)
	}
	if e != api.OK && got != nil {
		t.Errorf("%s: bytes that are not the zero value beside error %d", why, e)
	}
}

// P3.2: Open of what has a checksum ahead, and of what has not.
func TestOpen(t *testing.T) {
	expectOpen(t, "abc", []byte{2, 77, 1, 39, 'a', 'b', 'c'}, []byte("abc"), api.OK)
	expectOpen(t, "a byte of 0", []byte{0, 1, 0, 1, 0}, []byte{0}, api.OK)
	expectOpen(t, "the checksum of other bytes", []byte{2, 77, 1, 39, 'a', 'b', 'd'}, nil, api.ErrSum)
	expectOpen(t, "the checksum of more bytes", []byte{2, 77, 1, 39, 'a', 'b'}, nil, api.ErrSum)
	expectOpen(t, "the checksum of fewer bytes", []byte{2, 77, 1, 39, 'a', 'b', 'c', 0}, nil, api.ErrSum)
	expectOpen(t, "the smallest byte first", []byte{39, 1, 77, 2, 'a', 'b', 'c'}, nil, api.ErrSum)
	expectOpen(t, "bytes in another order", []byte{2, 77, 1, 39, 'a', 'c', 'b'}, nil, api.ErrSum)
	expectOpen(t, "the checksum behind", []byte{'a', 'b', 'c', 2, 77, 1, 39}, nil, api.ErrSum)
	expectOpen(t, "no checksum", []byte("fourinhand"), nil, api.ErrSum)
	for _, b := range texts() {
		n := defined(b)
		expectOpen(t, "a checksum and bytes", append([]byte{byte(n >> 24), byte(n >> 16), byte(n >> 8), byte(n)}, b...), b, api.OK)
	}
}

// P3.2: fewer than four bytes have not the form, whatever they are.
func TestOpenShort(t *testing.T) {
	for _, b := range [][]byte{
		nil, {}, {0}, {1}, {255}, {0, 0}, {0, 1}, {0, 0, 0}, {0, 0, 1}, {2, 77, 1}, make([]byte, 3, 4), make([]byte, 0, 100),
	} {
		expectOpen(t, "fewer than four bytes", b, nil, api.ErrForm)
	}
	// The byte that is missing lies in memory behind these.
	whole := []byte{0, 0, 0, 1}
	for n := range whole {
		expectOpen(t, "fewer than four bytes of four", whole[:n], nil, api.ErrForm)
	}
}

// P3.2: exactly four bytes are the checksum of no bytes, or are not.
func TestOpenFour(t *testing.T) {
	b, e := check.Open([]byte{0, 0, 0, 1})
	if e != api.OK || len(b) != 0 {
		t.Errorf("the checksum of no bytes: %v %d", b, e)
	}
	for _, b := range [][]byte{
		{0, 0, 0, 0}, {0, 0, 0, 2}, {1, 0, 0, 0}, {0, 1, 0, 1}, {255, 255, 255, 255}, {2, 77, 1, 39},
		{0, 0, 0xFF, 0xF2}, // A is 1, but modulo 65521 only
		{0xFF, 0xF1, 0, 1}, // B is 0, but modulo 65521 only
	} {
		expectOpen(t, "four other bytes", b, nil, api.ErrSum)
	}
}

// P3.3: what was sealed is returned.
func TestOpenSealed(t *testing.T) {
	for _, b := range texts() {
		expectOpen(t, "sealed", check.Seal(b), b, api.OK)
		expectOpen(t, "sealed twice", check.Seal(check.Seal(b)), check.Seal(b), api.OK)
	}
}

// P3.3: each byte of what was sealed, changed in each way, is noticed.
func TestOpenChanged(t *testing.T) {
	for _, b := range [][]byte{nil, {0}, {255}, []byte("abc"), []byte("Wikipedia"), repeated(0, 30), repeated(255, 270), mixed(300)} {
		s := check.Seal(b)
		for i := range s {
			for by := 1; by < 256; by++ {
				s[i] ^= byte(by)
				if got, e := check.Open(s); e != api.ErrSum || got != nil {
					t.Errorf("byte %d of %d, changed by %d: %v %d", i, len(s), by, got, e)
				}
				s[i] ^= byte(by)
			}
		}
		expectOpen(t, "changed back", s, b, api.OK)
	}
}

// P3.3: changed bytes are noticed also where A and B have exceeded the modulus many times.
func TestOpenChangedLong(t *testing.T) {
	for _, b := range [][]byte{mixed(70000), repeated(255, 65521)} {
		s := check.Seal(b)
		for _, i := range []int{0, 1, 2, 3, 4, 5, 260, 5555, 65519, 65520, len(s) - 2, len(s) - 1} {
			for _, by := range []byte{1, 2, 4, 8, 16, 32, 64, 128, 255} {
				s[i] ^= by
				expectOpen(t, "a changed byte", s, nil, api.ErrSum)
				s[i] ^= by
			}
		}
	}
}

// P3.3: the checksum is the same, wherever a text is cut in two or three; the parts may be empty.
func TestSumCut(t *testing.T) {
	for _, b := range [][]byte{{}, {7}, []byte("abc"), []byte("Wikipedia"), mixed(40), repeated(255, 260)} {
		want := defined(b)
		for i := 0; i <= len(b); i++ {
			if n := check.Sum(b[:i], b[i:]); n != want {
				t.Errorf("%d bytes, cut at %d: %d instead of %d", len(b), i, n, want)
			}
			for j := i; j <= len(b); j++ {
				if n := check.Sum(b[:i], b[i:j], b[j:]); n != want {
					t.Errorf("%d bytes, cut at %d and %d: %d instead of %d", len(b), i, j, n, want)
				}
			}
		}
	}
}

// P3.3: the checksum is the same for parts of each size, with empty ones between them or without.
func TestSumParts(t *testing.T) {
	for _, b := range texts() {
		for _, size := range []int{1, 2, 3, 255, 256, 257, 1460, 5552, 65521, 80000} {
			var parts, spaced [][]byte
			for from := 0; from < len(b); from += size {
				part := b[from:min(from+size, len(b))]
				parts = append(parts, part)
				spaced = append(spaced, nil, part, []byte{})
			}
			if n := check.Sum(parts...); n != defined(b) {
				t.Errorf("%d bytes in parts of %d: %d instead of %d", len(b), size, n, defined(b))
			}
			if n := check.Sum(spaced...); n != defined(b) {
				t.Errorf("%d bytes in parts of %d, with empty ones: %d instead of %d", len(b), size, n, defined(b))
			}
		}
	}
}

// R5: nothing is kept from one call to the next one.
func TestCallsAgain(t *testing.T) {
	for range 3 {
		if n := check.Sum([]byte("abc")); n != 38600999 {
			t.Errorf("%d", n)
		}
		expectOpen(t, "abc", check.Seal([]byte("abc")), []byte("abc"), api.OK)
		expectOpen(t, "abd", []byte{2, 77, 1, 39, 'a', 'b', 'd'}, nil, api.ErrSum)
	}
}

// spare returns b with room behind it, all of which is seen in the slice that is returned second.
func spare(b []byte) (part, whole []byte) {
	whole = append(bytes.Clone(b), "room behind"...)
	return whole[:len(b)], whole
}

// overwrite changes all bytes of b, and all for which there is room behind them.
func overwrite(b []byte) {
	b = b[:cap(b)]
	for i := range b {
		b[i] ^= 0x55
	}
}

// R3: Sum does not modify its parts, nor the list of them.
func TestSumKeepsArguments(t *testing.T) {
	first, one := spare([]byte("ab"))
	second, two := spare([]byte("c"))
	parts := [][]byte{first, nil, second}
	check.Sum(parts...)
	if string(one) != "abroom behind" || string(two) != "croom behind" {
		t.Errorf("a part was modified: %q %q", one, two)
	}
	if len(parts) != 3 || &parts[0][0] != &one[0] || parts[1] != nil || &parts[2][0] != &two[0] || len(parts[0]) != 2 || len(parts[2]) != 1 {
		t.Errorf("the list of parts was modified: %q", parts)
	}
}

// R3: Seal does not modify its argument, and its result shares no memory with it.
func TestSealOwned(t *testing.T) {
	for _, b := range [][]byte{{}, {9}, []byte("abc"), mixed(1456)} {
		part, whole := spare(b)
		before := bytes.Clone(whole)
		s := check.Seal(part)
		if !bytes.Equal(whole, before) {
			t.Errorf("Seal modified its argument of %d bytes", len(b))
		}
		overwrite(part)
		if !bytes.Equal(s[4:], b) {
			t.Errorf("the result of %d bytes was modified with the argument", len(b))
		}
		part, whole = spare(b)
		overwrite(check.Seal(part))
		if !bytes.Equal(whole, before) {
			t.Errorf("the argument of %d bytes was modified with the result", len(b))
		}
	}
}

// R3: Open does not modify its argument, and its result shares no memory with it.
func TestOpenOwned(t *testing.T) {
	for _, b := range [][]byte{{}, {9}, []byte("abc"), mixed(1456)} {
		part, whole := spare(check.Seal(b))
		before := bytes.Clone(whole)
		got, _ := check.Open(part)
		if !bytes.Equal(whole, before) {
			t.Errorf("Open modified its argument of %d bytes", len(part))
		}
		overwrite(part)
		if !bytes.Equal(got, b) {
			t.Errorf("the result of %d bytes was modified with the argument", len(b))
		}
		part, whole = spare(check.Seal(b))
		got, _ = check.Open(part)
		overwrite(got)
		if !bytes.Equal(whole, before) {
			t.Errorf("the argument of %d bytes was modified with the result", len(part))
		}
		part[0]++
		before = bytes.Clone(whole)
		check.Open(part)
		if !bytes.Equal(whole, before) {
			t.Errorf("Open modified its argument of %d bytes with another checksum", len(part))
		}
	}
}
