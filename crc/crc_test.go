package crc_test

import (
	"hash/crc32"
	"math/bits"
	"slices"
	"strconv"
	"strings"
	"testing"

	"pilcrow/crc"
)

// defined: the sum by the chapter's words, bit by bit.
func defined(parts ...string) uint32 {
	sum := ^uint32(0)
	for _, p := range parts {
		for i := range len(p) {
			for bit := range 8 {
				if p[i]>>bit&1 == 1 {
					sum ^= 1
				}
				if sum&1 == 1 {
					sum = sum>>1 ^ 0xEDB88320
				} else {
					sum >>= 1
				}
			}
		}
	}
	return ^sum
}

// mixed: a text in which every byte comes in many places.
func mixed(n int) string {
	l := make([]byte, n)
	x := uint32(7)
	for i := range l {
		x = x*1664525 + 1013904223
		l[i] = byte(x >> 24)
	}
	return string(l)
}

// one: a text of one byte.
func one(b int) string { return string([]byte{byte(b)}) }

// row: all 256 bytes, rising.
func row() string {
	l := make([]byte, 256)
	for i := range l {
		l[i] = byte(i)
	}
	return string(l)
}

// edges are bytes with few bits, with most, and some of either half.
var edges = []int{0x00, 0x01, 0x02, 0x0F, 0x10, 0x41, 0x55, 0x7F, 0x80, 0x81, 0xAA, 0xF0, 0xFE, 0xFF}

// short are texts of some bytes, of all kinds.
func short() []string {
	l := []string{
		"", "A", "\x00", "\xFF", "\x80", "\x00\x00", "\xFF\xFF", "AB", "\x01\x80", "ABC", "\x00\x00\x00", "\xFF\xFF\xFF",
		"\x00\x00\x00\x00", "\xFF\xFF\xFF\xFF", "\x9D\x0A\xD9\x6D", "\x20\x83\xB8\xED", "any", "123456789",
		"A\xC3\xA9\xE2\x82\xAC", "A text of letters, 0 to 9.\r\n", "\x00\x00\x00\x00\x01", "\x01\x00\x00\x00\x00",
	}
	for n := range 40 {
		l = append(l, mixed(n), strings.Repeat("\x00", n), strings.Repeat("\xFF", n))
	}
	return l
}

// texts are the short ones, and some of many bytes.
func texts() []string {
	l := append(short(), row(), strings.Repeat(row(), 9), strings.Repeat("\x00", 5000), strings.Repeat("\xFF", 5000))
	for n := 63; n < 70000; n = 2*n + 1 {
		l = append(l, mixed(n), mixed(n+1), mixed(n+2))
	}
	return l
}

// isSum: Of and Is answer a text's sum, and Add and Now tell it.
func isSum(t *testing.T, s string, want uint32) {
	t.Helper()
	if got := crc.Of(s); got != want {
		t.Errorf("Of(%.40q), %d bytes: %08X, not %08X", s, len(s), got, want)
	}
	if !crc.Is(s, want) {
		t.Errorf("Is(%.40q, %08X): false", s, want)
	}
	var sum crc.Sum
	sum.Add(s)
	if got := sum.Now(); got != want {
		t.Errorf("Now behind %.40q, %d bytes: %08X, not %08X", s, len(s), got, want)
	}
}

func TestExamples(t *testing.T) {
	if got := crc.Of("123456789"); got != 0xCBF43926 {
		t.Errorf("of 123456789: %08X", got)
	}
	if got := crc.Of(); got != 0 {
		t.Errorf("of nothing: %08X", got)
	}
}

// Sums that are known from elsewhere.
func TestP161KnownSums(t *testing.T) {
	isSum(t, "", 0)
	isSum(t, "a", 0xE8B7BE43)
	isSum(t, "abc", 0x352441C2)
	isSum(t, "\x00", 0xD202EF8D)
	isSum(t, "\xFF", 0xFF000000)
	isSum(t, "123456789", 0xCBF43926)
	isSum(t, "The quick brown fox jumps over the lazy dog", 0x414FA339)
	isSum(t, strings.Repeat("\x00", 32), 0x190A55AD)
	isSum(t, strings.Repeat("\xFF", 32), 0xFF6CAB0B)
	isSum(t, row()[:32], 0x91267E8A)
	isSum(t, row(), 0x29058C73)
}

func TestP161TextsOfUpToThreeBytes(t *testing.T) {
	for a := range 256 {
		isSum(t, one(a), defined(one(a)))
		for b := range 256 {
			s := one(a) + one(b)
			isSum(t, s, defined(s))
		}
	}
	for _, a := range edges {
		for _, b := range edges {
			for c := range 256 {
				s := one(a) + one(b) + one(c)
				isSum(t, s, defined(s))
				s = one(c) + one(a) + one(b)
				isSum(t, s, defined(s))
			}
		}
	}
}

func TestP161LongTexts(t *testing.T) {
	for _, s := range texts() {
		isSum(t, s, defined(s))
	}
	for n := range 300 {
		isSum(t, mixed(n), defined(mixed(n)))
	}
	// One byte that isn't 0, at each place of a text.
	for n := range 100 {
		s := strings.Repeat("\x00", n) + "\x01" + strings.Repeat("\x00", 99-n)
		isSum(t, s, defined(s))
	}
}

func TestP161AMegabyteAndMore(t *testing.T) {
	s := mixed(1 << 20)
	isSum(t, s, defined(s))
	isSum(t, strings.Repeat("\x00", 1<<20), defined(strings.Repeat("\x00", 1<<20)))
	// As much as all that a program is given, by the library's own sums: bit by
	// bit takes long.
	s = strings.Repeat(s, 16)
	isSum(t, s, crc32.ChecksumIEEE([]byte(s)))
}

func TestP161NoPartsAndEmptyOnes(t *testing.T) {
	for _, parts := range [][]string{nil, {}, {""}, {"", ""}, make([]string, 1000)} {
		if got := crc.Of(parts...); got != 0 {
			t.Errorf("of %d parts that are empty: %08X", len(parts), got)
		}
	}
	for _, s := range texts() {
		want := defined(s)
		for _, parts := range [][]string{{s}, {"", s}, {s, ""}, {"", "", s, "", ""}, {s[:len(s)/2], "", "", s[len(s)/2:]}} {
			if got := crc.Of(parts...); got != want {
				t.Errorf("%.40q, %d bytes, in %d parts, some empty: %08X, not %08X", s, len(s), len(parts), got, want)
			}
		}
	}
}

func TestP161ManyParts(t *testing.T) {
	for n := range 60 {
		var parts []string
		for i := range n {
			parts = append(parts, mixed(i))
		}
		if got, want := crc.Of(parts...), defined(strings.Join(parts, "")); got != want {
			t.Errorf("%d parts: %08X, not %08X", n, got, want)
		}
	}
	s := mixed(70000)
	if got, want := crc.Of(strings.Split(s, "")...), defined(s); got != want {
		t.Errorf("70000 parts: %08X, not %08X", got, want)
	}
	// The parts' order plays one.
	if crc.Of("AB", "C") == crc.Of("C", "AB") || crc.Of("C", "AB") != defined("CAB") {
		t.Errorf("%08X and %08X", crc.Of("AB", "C"), crc.Of("C", "AB"))
	}
}

// near are numbers that are unlike a sum, and close to it.
func near(sum uint32) []uint32 {
	l := []uint32{sum + 1, sum - 1, sum + 256, sum - 256, ^sum, ^sum + 1, bits.ReverseBytes32(sum), bits.Reverse32(sum), sum << 1, sum >> 1}
	for bit := range 32 {
		l = append(l, sum^1<<bit)
	}
	for bit := range 31 {
		l = append(l, sum^3<<bit)
	}
	for by := range 4 {
		l = append(l, sum&^(0xFF<<(8*by)), sum|0xFF<<(8*by), sum&(0xFF<<(8*by)))
	}
	return append(l, 0, 1, 0xFFFFFFFF, 0xEDB88320)
}

func TestP161IsForTheSumAlone(t *testing.T) {
	for _, s := range texts() {
		sum := defined(s)
		if !crc.Is(s, sum) {
			t.Errorf("Is(%.40q, %08X): false", s, sum)
		}
		for _, other := range near(sum) {
			if got := crc.Is(s, other); got != (other == sum) {
				t.Errorf("Is(%.40q, %08X), of which the sum is %08X: %v", s, other, sum, got)
			}
		}
	}
	// Texts that aren't empty, and have the sums of edges.
	for _, x := range []struct {
		s   string
		sum uint32
	}{{"\x9D\x0A\xD9\x6D", 0}, {"\xFF\xFF\xFF\xFF", 0xFFFFFFFF}} {
		if defined(x.s) != x.sum {
			t.Fatalf("%q: %08X", x.s, defined(x.s))
		}
		if !crc.Is(x.s, x.sum) || crc.Is(x.s, x.sum^1) || crc.Is(x.s, ^x.sum) {
			t.Errorf("%q, %08X", x.s, x.sum)
		}
	}
	if !crc.Is("", 0) || crc.Is("", 1) || crc.Is("", 0xFFFFFFFF) || crc.Is("a", 0) {
		t.Error("of no bytes the sum is 0 alone")
	}
}

// numbers are edges of 32 bits, and some that are mixed.
func numbers() []uint32 {
	l := []uint32{0, 1, 0x7FFFFFFF, 0x80000000, 0x80000001, 0xFFFFFFFF, 0x01020304, 0x04030201, 0xEDB88320, 0xCBF43926, 0x00FF00FF, 0xFF00FF00}
	for bit := range 32 {
		l = append(l, 1<<bit, 1<<bit-1, ^uint32(1<<bit), ^uint32(0)<<bit)
	}
	x := uint32(1)
	for range 1000 {
		x = x*1664525 + 1013904223
		l = append(l, x, x>>8)
	}
	return l
}

func TestP161FourAndBack(t *testing.T) {
	for _, n := range numbers() {
		s := crc.Four(n)
		if len(s) != 4 {
			t.Fatalf("Four(%08X): % X", n, s)
		}
		left := n
		for i := range 4 {
			if s[i] != byte(left%256) {
				t.Errorf("Four(%08X): % X", n, s)
			}
			left /= 256
		}
		if got := crc.Number(s); got != n {
			t.Errorf("Number(% X): %08X, not %08X", s, got, n)
		}
	}
	for _, x := range []struct {
		n uint32
		s string
	}{
		{0, "\x00\x00\x00\x00"}, {1, "\x01\x00\x00\x00"}, {0x7FFFFFFF, "\xFF\xFF\xFF\x7F"}, {0x80000000, "\x00\x00\x00\x80"},
		{0xFFFFFFFF, "\xFF\xFF\xFF\xFF"}, {0x01020304, "\x04\x03\x02\x01"}, {0xCBF43926, "\x26\x39\xF4\xCB"},
	} {
		if s := crc.Four(x.n); s != x.s {
			t.Errorf("Four(%08X): % X, not % X", x.n, s, x.s)
		}
		if n := crc.Number(x.s); n != x.n {
			t.Errorf("Number(% X): %08X, not %08X", x.s, n, x.n)
		}
	}
}

// Each byte at each of the four places, alone and among others.
func TestP161NumberOfFourBytes(t *testing.T) {
	for _, around := range []string{"\x00\x00\x00\x00", "\xFF\xFF\xFF\xFF", "\x04\x03\x02\x01", "any!"} {
		for at := range 4 {
			for b := range 256 {
				s := around[:at] + one(b) + around[at+1:]
				n := crc.Number(s)
				if crc.Four(n) != s || byte(n>>(8*at)) != byte(b) {
					t.Errorf("Number(% X): %08X", s, n)
				}
			}
		}
	}
}

func TestP161NumberOfFewerBytes(t *testing.T) {
	isNone := func(s string) {
		t.Helper()
		if n := crc.Number(s); n != 0 {
			t.Errorf("Number(% X): %08X", s, n)
		}
	}
	isNone("")
	for a := range 256 {
		isNone(one(a))
		for b := range 256 {
			isNone(one(a) + one(b))
			for _, c := range edges {
				isNone(one(a) + one(b) + one(c))
			}
		}
	}
	// Bytes that stand behind a short text play no part.
	for n := range 4 {
		isNone("\xFF\xFF\xFF\xFF\xFF"[:n])
	}
}

func TestP161NumberOfMoreBytes(t *testing.T) {
	for _, n := range numbers() {
		for _, more := range []string{"\x00", "\xFF", "A", "AB", "\x00\x00\x00\x00", "\xFF\xFF\xFF\xFF\xFF", mixed(100)} {
			if got := crc.Number(crc.Four(n) + more); got != n {
				t.Errorf("Number of %08X's four bytes, and % X: %08X", n, more, got)
			}
		}
	}
}

func TestP162TheZeroSumIsOfNoBytes(t *testing.T) {
	var s crc.Sum
	for _, sum := range []*crc.Sum{&s, {}, new(crc.Sum)} {
		if a, b := sum.Now(), sum.Now(); a != 0 || b != 0 {
			t.Errorf("%08X, %08X", a, b)
		}
		sum.Add("")
		sum.Add("")
		if sum.Now() != 0 {
			t.Errorf("%08X behind no bytes", sum.Now())
		}
		sum.Add("123456789")
		if sum.Now() != 0xCBF43926 {
			t.Errorf("%08X behind 123456789", sum.Now())
		}
	}
}

// Texts are added byte by byte, and each sum between is asked for twice.
func TestP162AddGoesOn(t *testing.T) {
	for _, s := range short() {
		var sum crc.Sum
		for i := range len(s) {
			sum.Add(s[i : i+1])
			want := defined(s[:i+1])
			if a, b := sum.Now(), sum.Now(); a != want || b != want {
				t.Errorf("%q, %d bytes of it: %08X, %08X, not %08X", s, i+1, a, b, want)
			}
			sum.Add("")
			if sum.Now() != want {
				t.Errorf("%q, %d bytes of it, and none: %08X, not %08X", s, i+1, sum.Now(), want)
			}
		}
	}
	var sum crc.Sum
	all := ""
	for n := range 200 {
		sum.Add(mixed(n))
		all += mixed(n)
		if got, want := sum.Now(), defined(all); got != want {
			t.Fatalf("%d texts: %08X, not %08X", n+1, got, want)
		}
	}
}

func TestP162AMegabyteByteByByte(t *testing.T) {
	s := mixed(1 << 20)
	var sum crc.Sum
	for i := range len(s) {
		sum.Add(s[i : i+1])
	}
	if got, want := sum.Now(), defined(s); got != want {
		t.Errorf("%08X, not %08X", got, want)
	}
}

func TestP162TwoSumsKnowNothingOfEachOther(t *testing.T) {
	a, b := mixed(500), row()+row()
	var sumA, sumB, idle crc.Sum
	for i := range 500 {
		sumA.Add(a[i : i+1])
		sumB.Add(b[i : i+1])
		crc.Of(a, b)
		if sumA.Now() != defined(a[:i+1]) || sumB.Now() != defined(b[:i+1]) || idle.Now() != 0 {
			t.Fatalf("%d bytes: %08X, %08X, %08X", i+1, sumA.Now(), sumB.Now(), idle.Now())
		}
	}
}

func TestP162ACopyGoesOnByItself(t *testing.T) {
	for _, s := range short() {
		var sum crc.Sum
		sum.Add(s)
		twin := sum
		if twin.Now() != defined(s) {
			t.Errorf("a copy behind %q: %08X", s, twin.Now())
		}
		sum.Add("one")
		twin.Add("other")
		third := twin
		third.Add("\x00")
		if sum.Now() != defined(s, "one") || twin.Now() != defined(s, "other") || third.Now() != defined(s, "other\x00") {
			t.Errorf("behind %q: %08X, %08X, %08X", s, sum.Now(), twin.Now(), third.Now())
		}
	}
}

// inParts: a text's sum, however it is parted.
func inParts(t *testing.T, want uint32, parts ...string) {
	t.Helper()
	if got := crc.Of(parts...); got != want {
		t.Errorf("Of(%.100q): %08X, not %08X", parts, got, want)
	}
	var plain, asked crc.Sum
	if asked.Now() != 0 {
		t.Errorf("%08X before any", asked.Now())
	}
	for i, p := range parts {
		plain.Add(p)
		asked.Add(p)
		between := defined(parts[:i+1]...)
		if a, b := asked.Now(), asked.Now(); a != between || b != between {
			t.Errorf("%.100q, %d parts of it: %08X, %08X, not %08X", parts, i+1, a, b, between)
		}
	}
	if plain.Now() != want || asked.Now() != want {
		t.Errorf("Now behind %.100q: %08X, and %08X where it was asked between, not %08X", parts, plain.Now(), asked.Now(), want)
	}
}

func TestP163AllPartsOfTwoAndThree(t *testing.T) {
	for _, s := range short() {
		want := defined(s)
		inParts(t, want, s)
		for i := range len(s) + 1 {
			inParts(t, want, s[:i], s[i:])
			for j := i; j <= len(s); j++ {
				inParts(t, want, s[:i], s[i:j], s[j:])
			}
		}
	}
	s := mixed(700)
	want := defined(s)
	for i := range len(s) + 1 {
		inParts(t, want, s[:i], s[i:])
	}
}

func TestP163PartsOfOneSize(t *testing.T) {
	s := mixed(10000)
	want := defined(s)
	for _, size := range []int{1, 2, 3, 4, 5, 7, 8, 15, 16, 17, 255, 256, 257, 4096, 9999, 10000} {
		var parts []string
		var sum crc.Sum
		for i := 0; i < len(s); i += size {
			parts = append(parts, s[i:min(i+size, len(s))])
			sum.Add(parts[len(parts)-1])
		}
		if got := crc.Of(parts...); got != want || sum.Now() != want {
			t.Errorf("parts of %d bytes: %08X, %08X, not %08X", size, got, sum.Now(), want)
		}
	}
}

// framed: a text, and its sum's four bytes.
func framed(s string) []byte { return []byte(s + crc.Four(crc.Of(s))) }

// off: by which bits a text's sum is unlike what the four bytes behind the text
// tell.
func off(frame []byte) uint32 {
	n := len(frame) - 4
	return crc.Of(string(frame[:n])) ^ crc.Number(string(frame[n:]))
}

// turn turns those bits of a frame whose pattern's is 1; the lowest one stands
// at the place at, counted byte by byte, from each byte's lowest bit on.
func turn(frame []byte, at int, pattern uint64) {
	for ; pattern != 0; pattern &= pattern - 1 {
		bit := at + bits.TrailingZeros64(pattern)
		frame[bit/8] ^= 1 << (bit % 8)
	}
}

// isFound: behind a burst the bytes have another sum, and behind the same
// burst once more they are as they were.
func isFound(t *testing.T, frame []byte, at int, pattern uint64) {
	t.Helper()
	turn(frame, at, pattern)
	n := len(frame) - 4
	if off(frame) == 0 || crc.Is(string(frame[:n]), crc.Number(string(frame[n:]))) {
		t.Fatalf("the burst %X at the bit %d of %d bytes isn't found", pattern, at, len(frame))
	}
	turn(frame, at, pattern)
}

// patterns are bursts of one length: all of them, if they are short, else some.
func patterns(length, all int) []uint64 {
	if length == 1 {
		return []uint64{1}
	}
	ends := uint64(1)<<(length-1) | 1
	inner := uint64(1)<<(length-2) - 1 // how many there are between the ends, less one
	var l []uint64
	if length <= all {
		for x := range inner + 1 {
			l = append(l, ends|x<<1)
		}
		return l
	}
	x := uint64(length)
	for range 12 {
		x = x*6364136223846793005 + 1442695040888963407
		l = append(l, ends|x>>32&inner<<1)
	}
	return append(l, ends, ends|inner<<1, ends|0x5555555555555555&inner<<1, ends|0xAAAAAAAAAAAAAAAA&inner<<1, ends|0xEDB88320&inner<<1, ends|0xDB710641&inner<<1)
}

// Bursts in the bytes, in the sum's four bytes, and across both: at all places
// of short texts.
func TestP163BurstsInShortTexts(t *testing.T) {
	for _, s := range []string{"", "\x00", "A", "\xFF", "\x00\x00", "AB", "any", "\xFF\xFF\xFF", "1234", "\x9D\x0A\xD9\x6D", "12345", "123456789"} {
		frame := framed(s)
		if off(frame) != 0 {
			t.Fatalf("%q: % X", s, frame)
		}
		for length := 1; length <= 32; length++ {
			for at := range 8*len(frame) - length + 1 {
				for _, p := range patterns(length, 14) {
					isFound(t, frame, at, p)
				}
			}
		}
	}
}

func TestP163BurstsInLongTexts(t *testing.T) {
	for _, s := range []string{mixed(40), row(), strings.Repeat("\x00", 1000), strings.Repeat("\xFF", 300), mixed(5000)} {
		frame := framed(s)
		end := 8 * len(frame)
		for length := 1; length <= 32; length++ {
			for _, p := range patterns(length, 4) {
				for _, at := range []int{0, 1, 7, 8, 9, end/2 - 1, end / 2, end/2 + 5, end - 32 - length, end - 32 - length/2, end - 33, end - 32, end - length - 1, end - length} {
					if at+length <= end {
						isFound(t, frame, at, p)
					}
				}
			}
		}
	}
	frame := framed(mixed(1 << 20))
	end := 8 * len(frame)
	for _, at := range []int{0, 3, 1 << 22, end - 64, end - 48, end - 33, end - 32} {
		isFound(t, frame, at, 1)
		isFound(t, frame, at, 0x80000001)
		isFound(t, frame, at, 0xFFFFFFFF)
	}
}

// Every burst whatever: by which bits the sum is off behind some that are
// turned is the xor of that behind each of them alone, so it is 0 behind none
// of the 2^32 - 1 patterns of 32 bits on end, if each bit of them turns what no
// others of them do. (That is what it is to be independent.)
func TestP163AllBurstsByTheirBits(t *testing.T) {
	for _, s := range []string{"", "A", "\x00\x00", "any", "1234", "123456789", mixed(100), row()} {
		frame := framed(s)
		single := make([]uint32, 8*len(frame))
		for at := range single {
			turn(frame, at, 1)
			single[at] = off(frame)
			turn(frame, at, 1)
		}
		for at := range len(single) - 31 {
			if n := independent(single[at : at+32]); n != 32 {
				t.Errorf("%.40q: of the 32 bits from %d on %d are independent", s, at, n)
			}
			for _, p := range patterns(32, 0) {
				want := uint32(0)
				for bit := range 32 {
					if p>>bit&1 == 1 {
						want ^= single[at+bit]
					}
				}
				turn(frame, at, p)
				if got := off(frame); got != want {
					t.Errorf("%.40q, %X at %d: off by %08X, not %08X", s, p, at, got, want)
				}
				turn(frame, at, p)
			}
		}
	}
}

// independent: how many of these numbers are no xor of ones ahead of them.
func independent(l []uint32) int {
	n := 0
	var with [32]uint32 // by its highest bit
	for _, x := range l {
		for x != 0 && with[bits.Len32(x)-1] != 0 {
			x ^= with[bits.Len32(x)-1]
		}
		if x != 0 {
			with[bits.Len32(x)-1] = x
			n++
		}
	}
	return n
}

// One pattern of 33 bits, and it alone, leaves the sum as it is: the order in
// which these tests count bits is the chapter's.
func TestP163TheBitsOfABurstAreCountedFromTheLowestOn(t *testing.T) {
	const whole = 0xEDB88320<<1 | 1
	for _, s := range []string{"A", "any", "123456789", mixed(50)} {
		frame := framed(s)
		for at := range 8*len(frame) - 32 {
			turn(frame, at, whole)
			if off(frame) != 0 {
				t.Errorf("%q, at %d: off by %08X", s, at, off(frame))
			}
			turn(frame, at, whole)
		}
	}
}

// xored: three texts of one length, byte by byte.
func xored(a, b, c string) string {
	l := make([]byte, len(a))
	for i := range l {
		l[i] = a[i] ^ b[i] ^ c[i]
	}
	return string(l)
}

func TestP163ThreeTextsXored(t *testing.T) {
	for _, n := range []int{0, 1, 2, 3, 4, 5, 8, 31, 32, 33, 256, 5000} {
		long := mixed(3*n + 7)
		a, b, c := long[:n], long[n+3:2*n+3], long[2*n+7:]
		zero, full := strings.Repeat("\x00", n), strings.Repeat("\xFF", n)
		for _, x := range [][3]string{{a, b, c}, {a, a, b}, {a, b, zero}, {a, b, full}, {a, full, zero}, {c, c, c}} {
			got := crc.Of(xored(x[0], x[1], x[2]))
			if want := crc.Of(x[0]) ^ crc.Of(x[1]) ^ crc.Of(x[2]); got != want {
				t.Errorf("three texts of %d bytes: %08X, not %08X", n, got, want)
			}
		}
	}
}

// What is handed in stays as it is, a list's spare room too.
func TestWhatIsHandedInStays(t *testing.T) {
	whole := []string{"one", "", mixed(100), "spare", "room"}
	was := slices.Clone(whole)
	for i, s := range was {
		was[i] = strings.Clone(s)
	}
	for n := range len(whole) + 1 {
		if got, want := crc.Of(whole[:n]...), defined(was[:n]...); got != want {
			t.Errorf("%d parts: %08X, not %08X", n, got, want)
		}
		if !slices.Equal(whole, was) {
			t.Fatalf("%d parts: %q", n, whole)
		}
	}
	// What was handed in isn't kept: the list may become another one.
	parts := []string{"AB", "C"}
	sum := crc.Of(parts...)
	parts[0] = "XY"
	if sum != defined("ABC") || crc.Of(parts...) != defined("XYC") {
		t.Errorf("%08X, %08X", sum, crc.Of(parts...))
	}
}

// What is asked twice is answered alike, whatever was asked between.
func TestAnswersStay(t *testing.T) {
	for i, s := range short() {
		sum, four := crc.Of(s), crc.Four(uint32(i))
		crc.Of(s, s, strconv.Itoa(i))
		crc.Four(sum)
		if crc.Of(s) != sum || crc.Four(uint32(i)) != four || four != string([]byte{byte(i), 0, 0, 0}) {
			t.Errorf("%q, %d: %08X, % X", s, i, crc.Of(s), crc.Four(uint32(i)))
		}
	}
}
