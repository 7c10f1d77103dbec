package block_test

import (
	"encoding/binary"
	"hash/crc32"
	"math"
	"slices"
	"strings"
	"testing"
	"unsafe"

	"pilcrow/api"
	"pilcrow/block"
	"pilcrow/codec"
	"pilcrow/samples"
)

// right is the Fail of what is right.
var right = api.Fail{}

// fail: an error, and its place.
func fail(err api.Errno, at int) api.Fail { return api.Fail{Err: err, At: at} }

// most are the greatest numbers that may be.
const (
	mostScalars = 65536
	mostBytes   = 1048576
)

// shown: a block, its payload's beginning in hex.
type shown struct {
	count, size int
	sum         uint32
	payload     string
}

func show(b api.Block) shown {
	return shown{b.Count, len(b.Payload), b.Sum, b.Payload[:min(len(b.Payload), 20)]}
}

// of: the block of this Count and Payload with the right sum, which the
// library says.
func of(count int, payload string) api.Block {
	return api.Block{Count: count, Sum: crc32.ChecksumIEEE([]byte(payload)), Payload: payload}
}

// spelt: a block's bytes, by the chapter's words, whatever its numbers.
func spelt(count, size, sum uint32, payload string) string {
	b := []byte{0x42}
	b = binary.LittleEndian.AppendUint32(b, count)
	b = binary.LittleEndian.AppendUint32(b, size)
	b = binary.LittleEndian.AppendUint32(b, sum)
	return string(b) + payload
}

// spellingOf: the bytes of a block that may be.
func spellingOf(b api.Block) string {
	return spelt(uint32(b.Count), uint32(len(b.Payload)), b.Sum, b.Payload)
}

// makes: Make answers this block, or this Fail and the zero block.
func makes(t *testing.T, c int, l []uint32, want api.Block, f api.Fail) {
	t.Helper()
	if b, got := block.Make(c, l...); b != want || got != f {
		t.Errorf("Make(%d, %s), %d numbers: %X %v, not %X %v", c, samples.Hex(l), len(l), show(b), got, show(want), f)
	}
}

// made: Make's block.
func made(t *testing.T, c int, l ...uint32) api.Block {
	t.Helper()
	b, f := block.Make(c, l...)
	if f != right {
		t.Fatalf("Make(%d, %s), %d numbers: %v", c, samples.Hex(l), len(l), f)
	}
	return b
}

// spells: Bytes answers these bytes, or this error and none.
func spells(t *testing.T, b api.Block, want string, err api.Errno) {
	t.Helper()
	if s, got := block.Bytes(b); s != want || got != err {
		t.Errorf("Bytes(%X): %.40X %d, not %.40X %d", show(b), s, got, want, err)
	}
}

// reads: Read answers this block, and the place behind it.
func reads(t *testing.T, s string, at int, want api.Block, behind int) {
	t.Helper()
	if b, n, f := block.Read(s, at); b != want || n != behind || f != right {
		t.Errorf("Read(%.40X, %d), %d bytes: %X %d %v, not %X %d", s, at, len(s), show(b), n, f, show(want), behind)
	}
}

// readsNone: Read answers this Fail, the zero block, and 0.
func readsNone(t *testing.T, s string, at int, want api.Fail) {
	t.Helper()
	if b, n, f := block.Read(s, at); b != (api.Block{}) || n != 0 || f != want {
		t.Errorf("Read(%.40X, %d), %d bytes: %X %d %v, not %v", s, at, len(s), show(b), n, f, want)
	}
}

// opens: Open answers these scalars, or this Fail and none.
func opens(t *testing.T, c int, b api.Block, f api.Fail, want ...uint32) {
	t.Helper()
	if l, got := block.Open(c, b); !slices.Equal(l, want) || got != f {
		t.Errorf("Open(%d, %X): %s %v, not %s %v", c, show(b), samples.Hex(l), got, samples.Hex(want), f)
	}
}

// lists: one scalar of each size, two, many, and more than a thousand.
func lists() [][]uint32 {
	var l [][]uint32
	for _, a := range samples.Sizes() {
		l = append(l, []uint32{a}, []uint32{a, 0x41}, []uint32{0x416, a, 0x436})
	}
	r := samples.From(20)
	for n := 3; n < 90; n += 3 {
		l = append(l, r.List(n))
	}
	return append(l, samples.Sizes(), r.List(1500))
}

// counts: numbers that no Count may be.
func counts() []int {
	return []int{
		0, -1, -2, -mostScalars, mostScalars + 1, mostScalars + 2, 2 * mostScalars, 1 << 24, 1 << 31, 1<<32 + 1, 1<<32 + mostScalars, 1 << 62,
		math.MinInt, math.MinInt + 1, math.MinInt32, math.MaxInt32, math.MaxUint32, math.MaxInt - 1, math.MaxInt,
	}
}

// sums: any, as none is wrong by itself.
func sums() []uint32 { return []uint32{0, 1, 0xFF, 0x12345678, 0x7FFFFFFF, 0x80000000, 0xFFFFFFFF} }

func TestExamples(t *testing.T) {
	b := made(t, api.Utf8, 0x41)
	if want := (api.Block{Count: 1, Sum: 0xD3D99E8B, Payload: "A"}); b != want {
		t.Errorf("%X, not %X", show(b), show(want))
	}
	s := "\x42\x01\x00\x00\x00\x01\x00\x00\x00\x8B\x9E\xD9\xD3\x41"
	spells(t, b, s, api.OK)
	reads(t, s, 0, b, 14)
	opens(t, api.Utf8, b, right, 0x41)
}

// The examples of the whole, as far as they are of scalars and bytes, or of a
// block.
func TestExamplesOfTheWhole(t *testing.T) {
	for _, x := range []struct {
		c int
		s string
		l []uint32
	}{
		{api.Utf8, "\x41\xC3\xA9\xE2\x82\xAC", []uint32{0x41, 0xE9, 0x20AC}}, {api.Utf16LE, "\x41\x00\xE9\x00\xAC\x20", []uint32{0x41, 0xE9, 0x20AC}},
		{api.Ebcdic, "\xC1", []uint32{0x41}}, {api.Utf8, "\xEF\xBB\xBF", []uint32{0xFEFF}}, {api.Utf16BE, "\xFE\xFF", []uint32{0xFEFF}},
		{api.Utf16LE, "\xFF\xFE", []uint32{0xFEFF}}, {api.Utf32BE, "\x00\x00\xFE\xFF", []uint32{0xFEFF}}, {api.Utf32LE, "\xFF\xFE\x00\x00", []uint32{0xFEFF}},
		{api.Ebcdic, "\xDD\x73\x66\x73", []uint32{0xFEFF}}, {api.Bocu, "\xFB\xEE\x28", []uint32{0xFEFF}}, {api.Scsu, "\x0E\xFE\xFF", []uint32{0xFEFF}},
		{api.Plain, "\x0E\xFE\xFF", []uint32{0xFEFF}}, {api.Puny, "bcher-kva", []uint32{0x62, 0xFC, 0x63, 0x68, 0x65, 0x72}},
		{api.Scsu, "\x12\x9C\xBE\xC1", []uint32{0x41C, 0x43E, 0x441}}, {api.Plain, "\x0F\x04\x1C\x04\x3E\x04\x41", []uint32{0x41C, 0x43E, 0x441}},
		{api.Bocu, "\xD3\xCA\x86\x0A\x91", []uint32{0x416, 0x436, 0x0A, 0x41}},
	} {
		b := of(len(x.l), x.s)
		makes(t, x.c, x.l, b, right)
		opens(t, x.c, b, right, x.l...)
		reads(t, spellingOf(b), 0, b, 13+len(x.s))
	}
	for _, x := range []struct {
		c  int
		s  string
		at int
	}{{api.Utf8, "\xE0\x80", 1}, {api.Utf16LE, "\x00\xDC", 1}, {api.Bocu, "\x4F", 0}, {api.Scsu, "\x18\x00", 1}} {
		opens(t, x.c, of(1, x.s), fail(api.ErrForm, x.at))
	}
	opens(t, api.Puny, of(1, "a-!"), fail(api.ErrCut, 3))
	turned := made(t, api.Utf8, 0x41)
	turned.Payload = "C"
	opens(t, api.Utf8, turned, fail(api.ErrSum, 0))
}

func TestP201Make(t *testing.T) {
	for c := 1; c <= api.Codecs; c++ {
		for _, l := range lists() {
			s, _ := codec.Encode(c, l...)
			makes(t, c, l, of(len(l), s), right)
		}
	}
}

// scalarsOf: so many of each kind of bytes.
func scalarsOf(n int) [][]uint32 {
	r := samples.From(201)
	l := [][]uint32{r.List(n)}
	for _, two := range [][]uint32{
		{0x41}, {0x10FFFF}, {0x10FFFF, 0}, {0x10FFFF, 0x80}, {0x10FFFF, 0xE000}, {0x416, 0x4E00}, {0xE000, 0x1F600}, {0xE000, 0x1F600, 0xF2FF, 0x10000},
		{0x2FFFF, 0x3041, 0xD7FF}, {0xF2FF}, {0x7F, 0x10FFFF, 0x80},
	} {
		l = append(l, slices.Repeat(two, n/len(two)+1)[:n])
	}
	far := make([]uint32, n) // all unlike, each far from the one ahead
	for i := range far {
		far[i] = uint32(0x10000 + i*15)
		if i%2 == 1 {
			far[i] = uint32(0x10FFFF - i*7)
		}
	}
	return append(l, far)
}

// No codec has so many bytes that a block of as many scalars as may be has
// more than a payload holds.
func TestP201MakeOfManyScalars(t *testing.T) {
	for c := 1; c <= api.Codecs; c++ {
		for _, l := range scalarsOf(mostScalars) {
			s, _ := codec.Encode(c, l...)
			if len(s) > mostBytes {
				t.Errorf("%d, %s: %d bytes", c, samples.Hex(l), len(s))
				makes(t, c, l, api.Block{}, fail(api.ErrLong, 0))
				continue
			}
			b := of(mostScalars, s)
			makes(t, c, l, b, right)
			opens(t, c, b, right, l...)
		}
		one := slices.Repeat([]uint32{0x416}, mostScalars-1)
		s, _ := codec.Encode(c, one...)
		makes(t, c, one, of(mostScalars-1, s), right)
	}
}

func TestP201MakeOfMostBytes(t *testing.T) {
	for _, x := range []struct {
		c, size int
		l       []uint32
	}{
		{api.Utf8, 4 * mostScalars, []uint32{0x10FFFF}}, {api.Utf16BE, 4 * mostScalars, []uint32{0x10000}},
		{api.Utf16LE, 4 * mostScalars, []uint32{0x10FFFF}}, {api.Utf32BE, 4 * mostScalars, []uint32{0x41}},
		{api.Utf32LE, 4 * mostScalars, []uint32{0x10FFFF}}, {api.Ebcdic, 5 * mostScalars, []uint32{0x40000}},
		{api.Bocu, 4 * mostScalars, []uint32{0x10FFFF, 0x80}}, {api.Plain, 1 + 4*mostScalars, []uint32{0x10FFFF}},
	} {
		l := slices.Repeat(x.l, mostScalars/len(x.l))
		b := made(t, x.c, l...)
		if b.Count != mostScalars || len(b.Payload) != x.size {
			t.Errorf("%d: %X, not %d bytes", x.c, show(b), x.size)
		}
		opens(t, x.c, b, right, l...)
	}
}

func TestP201MakeOfNoneOrTooMany(t *testing.T) {
	for _, c := range append(samples.NoCodecs(), 1, 2, 3, 4, 5, 6, 7, 8, 9, 10) {
		makes(t, c, nil, api.Block{}, fail(api.ErrCount, 0))
		makes(t, c, []uint32{}, api.Block{}, fail(api.ErrCount, 0))
		for _, n := range []int{mostScalars + 1, mostScalars + 2, 2 * mostScalars, 2*mostScalars + 1} {
			for _, a := range []uint32{0x41, 0x10FFFF, 0xD800, 0xFFFFFFFF} {
				makes(t, c, slices.Repeat([]uint32{a}, n), api.Block{}, fail(api.ErrCount, 0))
			}
		}
	}
}

func TestP201MakeByNoCodec(t *testing.T) {
	many := slices.Repeat([]uint32{0x41}, mostScalars)
	for _, c := range samples.NoCodecs() {
		for _, l := range [][]uint32{{0x41}, {0xD800}, {0x41, 0x110000, 0x42}, samples.NoScalars(), samples.Sizes(), many} {
			makes(t, c, l, api.Block{}, fail(api.ErrCodec, 0))
		}
	}
}

func TestP201MakeOfNoScalars(t *testing.T) {
	for c := 1; c <= api.Codecs; c++ {
		for _, bad := range samples.NoScalars() {
			makes(t, c, []uint32{bad}, api.Block{}, fail(api.ErrScalar, 0))
			makes(t, c, []uint32{bad, 0x41}, api.Block{}, fail(api.ErrScalar, 0))
			makes(t, c, []uint32{0x41, bad}, api.Block{}, fail(api.ErrScalar, 1))
			makes(t, c, []uint32{0x416, 0x4E00, bad, 0x1F600}, api.Block{}, fail(api.ErrScalar, 2))
			makes(t, c, []uint32{0x416, 0x4E00, 0x1F600, bad}, api.Block{}, fail(api.ErrScalar, 3))
			makes(t, c, []uint32{0x41, bad, 0x42, 0xD800, 0xFFFFFFFF}, api.Block{}, fail(api.ErrScalar, 1))
		}
		many := slices.Repeat([]uint32{0x416}, mostScalars)
		many[mostScalars-1] = 0xDFFF
		makes(t, c, many, api.Block{}, fail(api.ErrScalar, mostScalars-1))
	}
}

func TestP201Bytes(t *testing.T) {
	for _, n := range []int{1, 2, 255, 256, 257, 32767, 32768, mostScalars - 1, mostScalars} {
		for _, size := range []int{1, 2, 255, 256, 65535, 65536, mostBytes - 1, mostBytes} {
			s := strings.Repeat("\x00A\xFF", size/3+1)[:size]
			for _, sum := range append(sums(), crc32.ChecksumIEEE([]byte(s))) {
				b := api.Block{Count: n, Sum: sum, Payload: s}
				spells(t, b, spelt(uint32(n), uint32(size), sum, s), api.OK)
			}
		}
	}
	b := api.Block{Count: mostScalars, Sum: 0xFEDCBA98, Payload: "\xFF"}
	spells(t, b, "\x42\x00\x00\x01\x00\x01\x00\x00\x00\x98\xBA\xDC\xFE\xFF", api.OK)
}

func TestP201BytesOfNoBlock(t *testing.T) {
	long := strings.Repeat("A", mostBytes+1)
	for _, sum := range append(sums(), crc32.ChecksumIEEE([]byte(long))) {
		for _, n := range counts() {
			for _, s := range []string{"", "A", "ABC", long[:mostBytes], long, long + long} {
				spells(t, api.Block{Count: n, Sum: sum, Payload: s}, "", api.ErrCount)
			}
		}
		for _, n := range []int{1, 2, 1000, mostScalars - 1, mostScalars} {
			for _, s := range []string{"", long, long + "A", long + long} {
				spells(t, api.Block{Count: n, Sum: sum, Payload: s}, "", api.ErrLong)
			}
		}
	}
	spells(t, api.Block{}, "", api.ErrCount)
}

// blocks: made ones, and others that may be, whose payloads denote nothing.
func blocks(t *testing.T) []api.Block {
	t.Helper()
	l := []api.Block{
		made(t, api.Utf8, 0x41), made(t, api.Utf8, 0x42, 0x42, 0x42), made(t, api.Bocu, 0x416, 0x436), made(t, api.Utf32BE, 0, 0),
		{Count: mostScalars, Payload: "\x42"}, {Count: 1, Sum: 0x42424242, Payload: "B\x01\x00\x00\x00B"}, {Count: 0x4242, Sum: math.MaxUint32, Payload: "\xFF\x00"},
	}
	b := made(t, api.Utf8, 0x42) // its payload is a block's bytes
	return append(l, of(1, spellingOf(b)))
}

// readBy: Read by the chapter's words: they look at ever more of the bytes.
func readBy(s string, at int) (b api.Block, behind int, f api.Fail) {
	if at < 0 || at > len(s) {
		return b, 0, fail(api.ErrArg, 0)
	}
	here := []byte(s)[at:]
	if len(here) > 0 && here[0] != 0x42 {
		return b, 0, fail(api.ErrMagic, at)
	}
	if len(here) < 13 {
		return b, 0, fail(api.ErrCut, len(s))
	}
	count, size := binary.LittleEndian.Uint32(here[1:]), binary.LittleEndian.Uint32(here[5:])
	if count == 0 || count > mostScalars {
		return b, 0, fail(api.ErrCount, at+1)
	}
	if size == 0 || size > mostBytes {
		return b, 0, fail(api.ErrLong, at+5)
	}
	if uint32(len(here)-13) < size {
		return b, 0, fail(api.ErrCut, len(s))
	}
	b = api.Block{Count: int(count), Sum: binary.LittleEndian.Uint32(here[9:]), Payload: string(here[13 : 13+size])}
	return b, at + 13 + int(size), right
}

// isRead: Read answers what the chapter says, and what it answers has the
// bytes that it was read from.
func isRead(t *testing.T, s string, at int) {
	t.Helper()
	want, behind, f := readBy(s, at)
	if f != right {
		readsNone(t, s, at, f)
		return
	}
	reads(t, s, at, want, behind)
	spells(t, want, s[at:behind], api.OK)
}

func TestP202ReadEverywhere(t *testing.T) {
	all := blocks(t)
	for _, ahead := range []string{"", "A", "PILC\x01", "\x42", "\x42\x42\x42\x42\x42\x42\x42"} {
		for _, behind := range []string{"", "\x5A", "\x42", "\x42\x01\x00\x00", "\x00\x00\x00\x00\x00\x00\x00\x00\x00\x00\x00\x00\x00\x00"} {
			for i := range all {
				s, at := ahead, []int{}
				for _, b := range slices.Concat(all[i:], all[:i]) {
					at = append(at, len(s))
					s += spellingOf(b)
				}
				end := len(s)
				s += behind
				for k, b := range slices.Concat(all[i:], all[:i]) {
					reads(t, s, at[k], b, append(at, end)[k+1])
				}
				for p := -3; p < len(s)+3; p++ {
					isRead(t, s, p)
				}
			}
		}
	}
}

func TestP202ReadOutside(t *testing.T) {
	for _, s := range []string{"", "\x42", "A", spellingOf(of(1, "A")), spellingOf(of(1, "A")) + spellingOf(of(2, "BB"))} {
		n := len(s)
		for _, at := range []int{-1, -2, -13, n + 1, n + 2, n + 13, 1 << 31, 1 << 32, 1 << 62, math.MinInt, math.MinInt32, math.MaxInt32, math.MaxInt - 13, math.MaxInt - 1, math.MaxInt, -n - 1} {
			readsNone(t, s, at, fail(api.ErrArg, 0))
		}
		readsNone(t, s, n, fail(api.ErrCut, n))
	}
	readsNone(t, "", 0, fail(api.ErrCut, 0))
}

func TestP202ReadCutOff(t *testing.T) {
	for _, ahead := range []string{"", "A", "\x42\x42"} {
		for _, b := range append(blocks(t), of(1, strings.Repeat("a", 300))) {
			s := ahead + spellingOf(b)
			for n := len(ahead); n < len(s); n++ {
				readsNone(t, s[:n], len(ahead), fail(api.ErrCut, n))
			}
			reads(t, s, len(ahead), b, len(s))
		}
	}
	s := spellingOf(of(mostScalars, strings.Repeat("a", mostBytes)))
	reads(t, s, 0, of(mostScalars, strings.Repeat("a", mostBytes)), mostBytes+13)
	readsNone(t, s[:len(s)-1], 0, fail(api.ErrCut, len(s)-1))
}

func TestP202ReadWithoutItsByte(t *testing.T) {
	whole := spellingOf(of(1, "A"))
	for n := 1; n <= len(whole); n++ {
		for b := range 256 {
			if b == 0x42 {
				continue
			}
			s := string([]byte{byte(b)}) + whole[1:n]
			readsNone(t, s, 0, fail(api.ErrMagic, 0))
			readsNone(t, "B"+s, 1, fail(api.ErrMagic, 1))
			readsNone(t, whole+s, len(whole), fail(api.ErrMagic, len(whole)))
		}
	}
	readsNone(t, "B"+whole[1:], 1, fail(api.ErrMagic, 1))
}

// fours are numbers that four bytes may be: those that are right, and others.
func fours() []uint32 {
	return []uint32{
		0, 1, 2, 255, 256, mostScalars - 1, mostScalars, mostScalars + 1, 1 << 17, mostBytes - 1, mostBytes, mostBytes + 1, 1 << 24, 1<<24 + 1,
		0x7FFFFFFF, 0x80000000, 0x80000001, 0xFFFF0000, 0xFFFFFFFE, 0xFFFFFFFF,
	}
}

func TestP202ReadNumbers(t *testing.T) {
	long := strings.Repeat("a", mostBytes)
	for _, ahead := range []string{"", "\x42\x42\x42"} {
		at := len(ahead)
		for _, count := range fours() {
			for _, size := range fours() {
				for _, payload := range []string{"", "A", long[:255], long} {
					s := ahead + spelt(count, size, 7, payload)
					switch {
					case count < 1 || count > mostScalars:
						readsNone(t, s, at, fail(api.ErrCount, at+1))
					case size < 1 || size > mostBytes:
						readsNone(t, s, at, fail(api.ErrLong, at+5))
					case int(size) > len(payload):
						readsNone(t, s, at, fail(api.ErrCut, len(s)))
					default:
						reads(t, s, at, api.Block{Count: int(count), Sum: 7, Payload: payload[:size]}, at+13+int(size))
					}
				}
			}
		}
	}
}

// Where several are wrong, the first one is told, also if the bytes are cut.
func TestP202ReadOrder(t *testing.T) {
	bad := spelt(0, 0, 0, "")
	for n := 1; n < 13; n++ {
		readsNone(t, bad[:n], 0, fail(api.ErrCut, n))
		readsNone(t, "A"+bad[1:n], 0, fail(api.ErrMagic, 0))
		readsNone(t, "A"+bad[1:n], -1, fail(api.ErrArg, 0))
	}
	readsNone(t, bad, 0, fail(api.ErrCount, 1))
	readsNone(t, "A"+bad[1:], 0, fail(api.ErrMagic, 0))
	readsNone(t, spelt(1, 0, 0, ""), 0, fail(api.ErrLong, 5))
	readsNone(t, spelt(0, 1, 0, ""), 0, fail(api.ErrCount, 1))
	readsNone(t, spelt(0, 1, 0, "A"), 0, fail(api.ErrCount, 1))
	readsNone(t, spelt(1, 1, 0, ""), 0, fail(api.ErrCut, 13))
	readsNone(t, spelt(mostScalars+1, mostBytes+1, 0, ""), 0, fail(api.ErrCount, 1))
	readsNone(t, spelt(mostScalars, mostBytes+1, 0, ""), 0, fail(api.ErrLong, 5))
	readsNone(t, spelt(mostScalars, mostBytes, 0, ""), 0, fail(api.ErrCut, 13))
}

func TestP202ReadAnySum(t *testing.T) {
	for _, sum := range sums() {
		b := api.Block{Count: 3, Sum: sum, Payload: "AB"}
		reads(t, spelt(3, 2, sum, "AB"), 0, b, 15)
		reads(t, "B"+spelt(3, 2, sum, "AB")+"C", 1, b, 16)
	}
}

func TestP202ReadAnyBytes(t *testing.T) {
	r := samples.From(202)
	for range 3000 {
		b := []byte(spelt(uint32(r.Below(3)), uint32(r.Below(9)), uint32(r.Below(1<<20)), "ABCDEF"))
		for range r.Below(3) {
			b[r.Below(13)] = byte(r.Below(256))
		}
		s := string(b[:len(b)-r.Below(9)])
		for at := -1; at < len(s)+2; at++ {
			isRead(t, s, at)
		}
	}
}

func TestP203Open(t *testing.T) {
	for c := 1; c <= api.Codecs; c++ {
		for _, l := range lists() {
			s, _ := codec.Encode(c, l...)
			opens(t, c, of(len(l), s), right, l...)
		}
	}
}

func TestP203OpenNoBlock(t *testing.T) {
	long := strings.Repeat("A", mostBytes+1)
	for _, c := range append(samples.NoCodecs(), 1, 2, 3, 4, 5, 6, 7, 8, 9, 10) {
		for _, n := range counts() {
			for _, s := range []string{"", "A", "\xFF", long} {
				opens(t, c, of(n, s), fail(api.ErrCount, 0))
				opens(t, c, api.Block{Count: n, Sum: 1, Payload: s}, fail(api.ErrCount, 0))
			}
		}
		for _, n := range []int{1, 2, mostScalars} {
			for _, s := range []string{"", long, long + long} {
				opens(t, c, of(n, s), fail(api.ErrLong, 0))
				opens(t, c, api.Block{Count: n, Sum: 1, Payload: s}, fail(api.ErrLong, 0))
			}
		}
		opens(t, c, api.Block{}, fail(api.ErrCount, 0))
	}
}

func TestP203OpenByNoCodec(t *testing.T) {
	for _, c := range samples.NoCodecs() {
		for _, b := range []api.Block{of(1, "A"), of(2, "A"), of(1, "\xFF"), of(mostScalars, "ABC"), {Count: 1, Sum: 1, Payload: "A"}, {Count: 3, Payload: "\xFF"}} {
			opens(t, c, b, fail(api.ErrCodec, 0))
		}
	}
}

func TestP203OpenWithAWrongSum(t *testing.T) {
	for c := 1; c <= api.Codecs; c++ {
		for _, l := range lists() {
			b := made(t, c, l...)
			sum := b.Sum
			for _, other := range []uint32{0, 1, 0x80000000, 0x01000000, math.MaxUint32, sum} {
				b.Sum = sum ^ other
				if other == 0 {
					opens(t, c, b, right, l...)
					continue
				}
				opens(t, c, b, fail(api.ErrSum, 0))
				// Its sum is looked at ahead of what it denotes.
				opens(t, c, api.Block{Count: len(l) + 1, Sum: b.Sum, Payload: b.Payload}, fail(api.ErrSum, 0))
			}
		}
		for _, bad := range samples.Broken(c) {
			b := of(1, bad.Text)
			b.Sum++
			opens(t, c, b, fail(api.ErrSum, 0))
		}
	}
}

// What a codec tells of a payload is told, if its sum is right.
func TestP203OpenWhatGoesWrong(t *testing.T) {
	for c := 1; c <= api.Codecs; c++ {
		for _, bad := range samples.Broken(c) {
			for _, n := range []int{1, 2, 3, len(bad.Told) + 1, mostScalars} {
				opens(t, c, of(n, bad.Text), bad.Fail)
			}
		}
		line := slices.Repeat([]uint32{0x416, 0x20AC, 0x41, 0x0A}, 9000)
		s, _ := codec.Encode(c, line...)
		bad := samples.Broken(c)[0] // it goes wrong behind a line's end, too
		if c == api.Plain {
			bad = samples.Wrong{Text: "\xF2", Fail: fail(api.ErrForm, 0)} // what was written goes on in the Unicode mode
		}
		for _, behind := range []string{"", "A", s} {
			opens(t, c, of(len(line), s+bad.Text+behind), fail(api.ErrForm, len(s)+bad.Fail.At))
		}
	}
}

func TestP203OpenWhatIsCutOff(t *testing.T) {
	l := []uint32{0x41, 0x416, 0x4E00, 0x1F600}
	for c := 1; c <= api.Codecs; c++ {
		s, _ := codec.Encode(c, l...)
		for n := 1; n < len(s); n++ {
			told, f := codec.Decode(c, s[:n])
			if f == right {
				f = fail(api.ErrCount, len(told))
			}
			opens(t, c, of(len(l), s[:n]), f)
		}
	}
}

func TestP203OpenWithAWrongCount(t *testing.T) {
	for c := 1; c <= api.Codecs; c++ {
		for _, l := range append(lists(), slices.Repeat([]uint32{0x41}, mostScalars)) {
			b := made(t, c, l...)
			for _, n := range []int{1, len(l) - 1, len(l) + 1, 2 * len(l), mostScalars - 1, mostScalars} {
				b.Count = n
				switch {
				case n < 1 || n > mostScalars:
					opens(t, c, b, fail(api.ErrCount, 0))
				case n == len(l):
					opens(t, c, b, right, l...)
				default:
					opens(t, c, b, fail(api.ErrCount, len(l)))
				}
			}
		}
	}
}

// There may be more scalars than any block has, or none at all.
func TestP203OpenOfNoneOrTooMany(t *testing.T) {
	opens(t, api.Utf8, of(mostScalars, strings.Repeat("A", mostScalars+1)), fail(api.ErrCount, mostScalars+1))
	opens(t, api.Utf8, of(1, strings.Repeat("A", mostBytes)), fail(api.ErrCount, mostBytes))
	opens(t, api.Puny, of(1, strings.Repeat("-", mostBytes)), fail(api.ErrCount, mostBytes-1))
	opens(t, api.Bocu, of(1, "\xFF"), fail(api.ErrCount, 0))
	opens(t, api.Bocu, of(mostScalars, strings.Repeat("\xFF", mostBytes)), fail(api.ErrCount, 0))
	for _, c := range []int{api.Scsu, api.Plain} {
		opens(t, c, of(1, "\x11"), fail(api.ErrCount, 0))
		opens(t, c, of(9, "\x18\x0B\x10"), fail(api.ErrCount, 0))
	}
}

// By one codec's numbers another one's bytes may be right, too.
func TestP203OpenByAnother(t *testing.T) {
	for c := 1; c <= api.Codecs; c++ {
		for _, l := range lists() {
			b := made(t, c, l...)
			for other := 1; other <= api.Codecs; other++ {
				told, f := codec.Decode(other, b.Payload)
				switch {
				case f != right:
					opens(t, other, b, f)
				case len(told) != len(l):
					opens(t, other, b, fail(api.ErrCount, len(told)))
				default:
					opens(t, other, b, right, told...)
				}
			}
		}
	}
}

func TestP204ThereAndBack(t *testing.T) {
	for c := 1; c <= api.Codecs; c++ {
		for i, l := range append(lists(), slices.Repeat([]uint32{0x416}, mostScalars)) {
			b := made(t, c, l...)
			s, err := block.Bytes(b)
			if err != api.OK {
				t.Fatalf("Bytes(%X): %d", show(b), err)
			}
			ahead := strings.Repeat("\x42", i%20)
			for _, behind := range []string{"", "\x42", "\x5A\xFF", s} {
				reads(t, ahead+s+behind, len(ahead), b, len(ahead)+len(s))
				got, _, _ := block.Read(ahead+s+behind, len(ahead))
				opens(t, c, got, right, l...)
				spells(t, got, s, api.OK)
			}
		}
	}
}

func TestP204Bursts(t *testing.T) {
	r := samples.From(204)
	for c := 1; c <= api.Codecs; c++ {
		for _, l := range [][]uint32{{0x41, 0x42, 0x43, 0x44, 0x45}, {0x1F600, 0x4E00, 0x416}, r.List(40), r.List(2000)} {
			b := made(t, c, l...)
			for bits := 1; bits <= 32; bits++ {
				last := 8*len(b.Payload) - bits
				for _, from := range []int{0, 1, last / 2, last/2 + 5, last - 1, last, r.Below(last + 1)} {
					if from < 0 || from > last {
						continue
					}
					for _, between := range []uint32{0, math.MaxUint32, 0x55555555, uint32(r.Below(1 << 24))} {
						hurt := b
						hurt.Payload = samples.Burst(b.Payload, from, bits, between)
						opens(t, c, hurt, fail(api.ErrSum, 0))
						got, _, _ := block.Read(spellingOf(hurt), 0)
						opens(t, c, got, fail(api.ErrSum, 0))
					}
				}
			}
		}
	}
}

// Any change of a block's bytes is another block, or none, or has another end.
func TestP204OneSpelling(t *testing.T) {
	for _, b := range blocks(t) {
		s := spellingOf(b)
		for i := range len(s) {
			for x := 1; x < 256; x++ {
				other := []byte(s)
				other[i] ^= byte(x)
				isRead(t, string(other)+"AAA", 0)
				if got, _, f := block.Read(string(other)+"AAA", 0); f == right && got == b {
					t.Errorf("%.40X and %.40X are the same block", s, other)
				}
			}
		}
	}
}

func TestWhatIsHandedInStays(t *testing.T) {
	for c := 0; c <= api.Codecs+1; c++ {
		for _, l := range append(lists(), nil, []uint32{0x41, 0xD800, 0x42}, slices.Repeat([]uint32{0x41}, mostScalars+1)) {
			list, all := samples.Roomy(l, 0xDEAD)
			was := slices.Clone(all)
			b, _ := block.Make(c, list...)
			samples.Spoil(list, 0xBEEF)
			if again, _ := block.Make(c, l...); again != b {
				t.Errorf("Make(%d, %s): what is made isn't for itself", c, samples.Hex(l))
			}
			copy(all, was)
			block.Make(c, list...)
			block.Open(c, b)
			if !slices.Equal(all, was) {
				t.Errorf("Make(%d, %s): the list isn't what it was", c, samples.Hex(l))
			}
		}
	}
}

func TestAnswersAreNewMemory(t *testing.T) {
	for c := 1; c <= api.Codecs; c++ {
		for _, l := range lists() {
			b := made(t, c, l...)
			one, _ := block.Open(c, b)
			other, _ := block.Open(c, b)
			samples.Spoil(one, 0xDEAD)
			if !slices.Equal(other, l) {
				t.Errorf("Open(%d, %X): two answers share memory", c, show(b))
			}
			opens(t, c, b, right, l...)
		}
	}
}

// A block that was read doesn't keep the bytes around it.
func TestBlocksThatAreReadAreForThemselves(t *testing.T) {
	s := "AAA" + spellingOf(of(1, "ABC")) + strings.Repeat("B", 1000)
	b, _, _ := block.Read(s, 3)
	if unsafe.StringData(b.Payload) == unsafe.StringData(s[16:]) {
		t.Error("a block that was read shares memory with what it was read from")
	}
}
