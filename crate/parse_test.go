package crate_test

import (
	"encoding/binary"
	"math"
	"slices"
	"strings"
	"testing"
	"unsafe"

	"pilcrow/api"
	"pilcrow/block"
	"pilcrow/crate"
	"pilcrow/samples"
)

// parses: Parse answers this crate.
func parses(t *testing.T, s string, want api.Crate) {
	t.Helper()
	if c, f := crate.Parse(s); !same(c, want) || f != right {
		t.Errorf("Parse(%.60X), %d bytes: %v %v, not %v", s, len(s), show(c), f, show(want))
	}
}

// parsesNone: Parse answers this Fail, and the zero crate.
func parsesNone(t *testing.T, s string, want api.Fail) {
	t.Helper()
	if c, f := crate.Parse(s); c.Codec != 0 || c.Size != 0 || len(c.Blocks) != 0 || f != want {
		t.Errorf("Parse(%.60X), %d bytes: %v %v, not %v", s, len(s), show(c), f, want)
	}
}

// part is what comes next among bytes: how many they are, whether they are
// so, and what is told at which of them, unless they are.
type part struct {
	size int
	so   func(s string) bool
	err  api.Errno
}

// allSo: these parts one behind the other, from a place on: the place behind
// them.
func allSo(s string, at int, parts ...part) (int, api.Fail) {
	for _, p := range parts {
		if len(s)-at < p.size {
			return 0, fail(api.ErrCut, len(s))
		}
		if !p.so(s[at : at+p.size]) {
			return 0, fail(p.err, at)
		}
		at += p.size
	}
	return at, right
}

// is: just these bytes?
func is(want string) func(string) bool {
	return func(s string) bool { return s == want }
}

// number: the number that four bytes are.
func number(s string) uint32 { return binary.LittleEndian.Uint32([]byte(s)) }

// parseBy: Parse by the chapter's words.
func parseBy(s string) (api.Crate, api.Fail) {
	at, f := allSo(s, 0, part{1, is("P"), api.ErrMagic}, part{1, is("I"), api.ErrMagic}, part{1, is("L"), api.ErrMagic}, part{1, is("C"), api.ErrMagic},
		part{1, is("\x01"), api.ErrVersion}, part{1, func(s string) bool { return s >= "\x01" && s <= "\x0A" }, api.ErrCodec},
		part{4, func(s string) bool { return number(s) >= 1 && number(s) <= mostScalars }, api.ErrCount},
		part{4, func(sum string) bool { return number(sum) == sumOf(s[:10]) }, api.ErrSum})
	if f != right {
		return api.Crate{}, f
	}
	c := api.Crate{Codec: int(s[5]), Size: int(number(s[6:10]))}
	scalars, bytes := 0, 0
	for at < len(s) && s[at] == 0x42 {
		b, behind, f := block.Read(s, at)
		if f == right && (b.Count > c.Size || slices.ContainsFunc(c.Blocks, func(ahead api.Block) bool { return ahead.Count < c.Size })) {
			f = fail(api.ErrCount, at+1)
		}
		if f != right {
			return api.Crate{}, f
		}
		c.Blocks = append(c.Blocks, b)
		scalars += b.Count
		bytes += len(b.Payload)
		at = behind
	}
	at, f = allSo(s, at, part{1, is("\x5A"), api.ErrMagic})
	if f == right && len(s)-at < 24 {
		f = fail(api.ErrCut, len(s))
	}
	if f != right {
		return api.Crate{}, f
	}
	end := endOf(uint32(len(c.Blocks)), uint64(scalars), uint64(bytes))
	at, f = allSo(s, at, part{4, is(end[1:5]), api.ErrTotal}, part{8, is(end[5:13]), api.ErrTotal}, part{8, is(end[13:21]), api.ErrTotal}, part{4, is(end[21:]), api.ErrSum})
	if f == right && at < len(s) {
		f = fail(api.ErrMore, at)
	}
	if f != right {
		return api.Crate{}, f
	}
	return c, right
}

// isParsed: Parse answers what the chapter says, and what it answers has the
// bytes that it was read from.
func isParsed(t *testing.T, s string) {
	t.Helper()
	want, f := parseBy(s)
	if f != right {
		parsesNone(t, s, f)
		return
	}
	parses(t, s, want)
	prints(t, want, s, api.OK)
}

func TestP212Parse(t *testing.T) {
	for _, c := range crates() {
		parses(t, spelt(c), c)
	}
	for _, n := range []int{255, 256, 257, 65535, 65536, 65537} {
		c := api.Crate{Codec: api.Ebcdic, Size: 7, Blocks: slices.Repeat([]api.Block{{Count: 7, Sum: 9, Payload: "AB"}}, n)}
		parses(t, spelt(c), c)
	}
	long := api.Block{Count: 2, Sum: 5, Payload: strings.Repeat("A", mostBytes)}
	c := api.Crate{Codec: api.Utf32LE, Size: 2, Blocks: []api.Block{long, long, long}}
	parses(t, spelt(c), c)
	parses(t, spelt(manyScalars()), manyScalars())
}

func TestP212ParseCutOff(t *testing.T) {
	for _, c := range crates() {
		s := spelt(c)
		for n := range len(s) {
			parsesNone(t, s[:n], fail(api.ErrCut, n))
		}
	}
	parsesNone(t, "", fail(api.ErrCut, 0))
}

func TestP212ParseMore(t *testing.T) {
	for _, c := range crates() {
		s := spelt(c)
		for _, behind := range []string{"\x00", "A", "\x42", "\x5A", "\xFF", s, s[14:], strings.Repeat("\x00", 1000)} {
			parsesNone(t, s+behind, fail(api.ErrMore, len(s)))
		}
	}
}

func TestP212ParseEachByteChanged(t *testing.T) {
	for _, c := range []api.Crate{
		crateOf(api.Utf8, 2), crateOf(api.Utf8, 2, 0x41), crateOf(api.Bocu, 2, 0x41, 0x42, 0x43), crateOf(api.Scsu, 1, 0x42, 0x5A),
		{Codec: 7, Size: 300, Blocks: []api.Block{{Count: 300, Payload: "\x42\x5A"}, {Count: 255, Sum: 1, Payload: "A"}}},
	} {
		s := spelt(c)
		for at := range len(s) {
			for x := 1; x < 256; x++ {
				other := []byte(s)
				other[at] ^= byte(x)
				isParsed(t, string(other))
				isParsed(t, string(other)+"\x5A")
				isParsed(t, string(other[:len(s)-1]))
				if got, f := crate.Parse(string(other)); f == right && same(got, c) {
					t.Errorf("%X and %X are one crate", s, other)
				}
			}
		}
	}
}

// Where a byte that was changed stands says what is told, and where.
func TestP212ParseWhatIsToldWhere(t *testing.T) {
	s := spelt(crateOf(api.Utf8, 2, 0x41, 0x42, 0x43)) // its blocks begin at 14 and 29, its end at 43
	for _, x := range []struct {
		from, to int
		by       byte
		f        func(at int) api.Fail
	}{
		{0, 4, 0x20, func(at int) api.Fail { return fail(api.ErrMagic, at) }},
		{4, 5, 1, func(int) api.Fail { return fail(api.ErrVersion, 4) }},
		{5, 6, 0x10, func(int) api.Fail { return fail(api.ErrCodec, 5) }},
		{5, 6, 2, func(int) api.Fail { return fail(api.ErrSum, 10) }}, // another codec
		{7, 8, 0x10, func(int) api.Fail { return fail(api.ErrSum, 10) }},
		{8, 10, 2, func(int) api.Fail { return fail(api.ErrCount, 6) }},
		{10, 14, 0x80, func(int) api.Fail { return fail(api.ErrSum, 10) }},
		{14, 15, 1, func(int) api.Fail { return fail(api.ErrMagic, 14) }},
		{15, 16, 4, func(int) api.Fail { return fail(api.ErrCount, 15) }}, // more than Size
		{15, 16, 3, func(int) api.Fail { return fail(api.ErrCount, 30) }}, // fewer, and not the last one
		{16, 19, 4, func(int) api.Fail { return fail(api.ErrCount, 15) }},
		{22, 23, 0x80, func(int) api.Fail { return fail(api.ErrLong, 19) }},
		{19, 20, 2, func(int) api.Fail { return fail(api.ErrLong, 19) }}, // none
		{29, 30, 1, func(int) api.Fail { return fail(api.ErrMagic, 29) }},
		{43, 44, 1, func(int) api.Fail { return fail(api.ErrMagic, 43) }},
		{43, 44, 0x5A ^ 0x42, func(int) api.Fail { return fail(api.ErrCount, 44) }}, // the end is a block, behind one with fewer
		{44, 48, 0x80, func(int) api.Fail { return fail(api.ErrTotal, 44) }},
		{48, 56, 0x80, func(int) api.Fail { return fail(api.ErrTotal, 48) }},
		{56, 64, 0x80, func(int) api.Fail { return fail(api.ErrTotal, 56) }},
		{64, 68, 0x80, func(int) api.Fail { return fail(api.ErrSum, 64) }},
	} {
		for at := x.from; at < x.to; at++ {
			other := []byte(s)
			other[at] ^= x.by
			parsesNone(t, string(other), x.f(at))
		}
	}
	for _, at := range []int{23, 24, 25, 26, 27, 28, 38, 41, 42} { // sums and payloads
		other := []byte(s)
		other[at] ^= 0x80
		if _, f := crate.Parse(string(other)); f != right {
			t.Errorf("Parse with %d changed: %v", at, f)
		}
	}
}

func TestP212ParseLetters(t *testing.T) {
	s := spelt(crateOf(api.Utf8, 2, 0x41))
	for at := range 4 {
		for x := 1; x < 256; x++ {
			other := []byte(s)
			other[at] ^= byte(x)
			for _, n := range []int{len(s), at + 1, at + 2, 14} {
				parsesNone(t, string(other[:n]), fail(api.ErrMagic, at))
			}
			if at > 0 {
				parsesNone(t, string(other[:at]), fail(api.ErrCut, at))
			}
		}
	}
	parsesNone(t, "pilc", fail(api.ErrMagic, 0))
	parsesNone(t, "PILP", fail(api.ErrMagic, 3))
	parsesNone(t, "PPP", fail(api.ErrMagic, 1))
	parsesNone(t, "\x42", fail(api.ErrMagic, 0))
	parsesNone(t, "APILC", fail(api.ErrMagic, 0))
}

func TestP212ParseVersionAndCodec(t *testing.T) {
	behind := spelt(crateOf(api.Utf8, 2, 0x41))[14:]
	for v := range 256 {
		for _, c := range []byte{0, 1, 10, 11, 0xFF} {
			s := headOf(byte(v), c, 2)
			for _, n := range []int{5, 6, 7, 10, 13, 14} {
				switch {
				case v != 1:
					parsesNone(t, s[:n], fail(api.ErrVersion, 4))
					parsesNone(t, s+behind, fail(api.ErrVersion, 4))
				case n > 5 && (c < 1 || c > 10):
					parsesNone(t, s[:n], fail(api.ErrCodec, 5))
					parsesNone(t, s+behind, fail(api.ErrCodec, 5))
				}
			}
		}
	}
	for c := range 256 {
		s := headOf(1, byte(c), 2)
		if c >= 1 && c <= 10 {
			parses(t, s+behind, api.Crate{Codec: c, Size: 2, Blocks: []api.Block{of(1, "A")}})
			continue
		}
		parsesNone(t, s+behind, fail(api.ErrCodec, 5))
		parsesNone(t, s[:6], fail(api.ErrCodec, 5))
		parsesNone(t, headOf(1, byte(c), 0)+behind, fail(api.ErrCodec, 5))
	}
}

func TestP212ParseSize(t *testing.T) {
	for _, size := range []uint32{0, 65537, 65538, 1 << 17, 1<<24 + 1, 0x7FFFFFFF, 0x80000000, 0x80000001, 0xFFFF0000, 0xFFFFFFFF} {
		s := headOf(1, 1, size)
		for _, behind := range []string{"", endOf(0, 0, 0), blockOf(1, 1, sumOf("A"), "A") + endOf(1, 1, 1), "A"} {
			parsesNone(t, s+behind, fail(api.ErrCount, 6))
			parsesNone(t, s[:10]+"AAAA"+behind, fail(api.ErrCount, 6))
		}
		for n := 10; n < 14; n++ {
			parsesNone(t, s[:n], fail(api.ErrCount, 6))
		}
		for n := 6; n < 10; n++ {
			parsesNone(t, s[:n], fail(api.ErrCut, n))
		}
	}
	for _, size := range []int{1, 2, 255, 256, 65535, 65536} {
		s := headOf(1, 1, uint32(size))
		parses(t, s+endOf(0, 0, 0), api.Crate{Codec: 1, Size: size})
		parses(t, s+blockOf(1, 1, 5, "A")+endOf(1, 1, 1), api.Crate{Codec: 1, Size: size, Blocks: []api.Block{{Count: 1, Sum: 5, Payload: "A"}}})
	}
}

func TestP212ParseSumOfTheHead(t *testing.T) {
	for _, c := range crates() {
		s := spelt(c)
		for _, x := range []uint32{1, 0x100, 0x10000, 0x80000000, math.MaxUint32} {
			other := s[:10] + four(sumOf(s[:10])^x)
			parsesNone(t, other+s[14:], fail(api.ErrSum, 10))
			parsesNone(t, other, fail(api.ErrSum, 10))
			parsesNone(t, other+"A", fail(api.ErrSum, 10))
			parsesNone(t, other[:13], fail(api.ErrCut, 13))
		}
	}
}

// A block whose numbers may not be, as the first one, behind a good one, and
// behind one that has fewer scalars than Size.
func TestP212ParseBadBlocks(t *testing.T) {
	head, good, short := headOf(1, 1, 3), blockOf(3, 2, 9, "AB"), blockOf(2, 2, 9, "AB")
	end := endOf(1, 3, 2)
	for _, ahead := range []string{head, head + good, head + good + good, head + short} {
		p := len(ahead)
		for _, x := range []struct {
			s string
			f api.Fail
		}{
			{blockOf(0, 2, 9, "AB"), fail(api.ErrCount, p+1)}, {blockOf(65537, 2, 9, "AB"), fail(api.ErrCount, p+1)},
			{blockOf(math.MaxUint32, 2, 9, "AB"), fail(api.ErrCount, p+1)}, {blockOf(0, 0, 9, ""), fail(api.ErrCount, p+1)},
			{blockOf(4, 2, 9, "AB"), fail(api.ErrCount, p+1)}, {blockOf(65536, 2, 9, "AB"), fail(api.ErrCount, p+1)},
			{blockOf(3, 0, 9, "AB"), fail(api.ErrLong, p+5)}, {blockOf(3, mostBytes+1, 9, "AB"), fail(api.ErrLong, p+5)},
			{blockOf(4, 0, 9, "AB"), fail(api.ErrLong, p+5)}, {blockOf(4, math.MaxUint32, 9, "AB"), fail(api.ErrLong, p+5)},
			{blockOf(0, math.MaxUint32, 9, "AB"), fail(api.ErrCount, p+1)}, {"\x43" + good[1:], fail(api.ErrMagic, p)}, {"\x00", fail(api.ErrMagic, p)},
			{"A", fail(api.ErrMagic, p)}, {"\x5B", fail(api.ErrMagic, p)}, {"PILC", fail(api.ErrMagic, p)},
		} {
			parsesNone(t, ahead+x.s+end, x.f)
			parsesNone(t, ahead+x.s+good+"A", x.f)
		}
		for n := 1; n < 15; n++ {
			parsesNone(t, ahead+good[:n], fail(api.ErrCut, p+n))
			parsesNone(t, ahead+blockOf(4, 2, 9, "AB")[:n], fail(api.ErrCut, p+n))
		}
		parsesNone(t, ahead+blockOf(4, 2, 9, "A"), fail(api.ErrCut, p+14))
		parsesNone(t, ahead+blockOf(4, 1000, 9, "AB")+end, fail(api.ErrCut, p+15+len(end)))
	}
}

// Behind a block with fewer scalars than Size there is no other one.
func TestP212ParseBehindAShortBlock(t *testing.T) {
	for _, size := range []int{2, 3, 1000, mostScalars} {
		for _, n := range []int{1, size / 2, size - 1} {
			full, short := blockOf(uint32(size), 3, 9, "ABC"), blockOf(uint32(n), 1, 9, "A")
			for _, ahead := range []string{"", full, full + full} {
				s := headOf(1, 2, uint32(size)) + ahead + short
				for _, next := range []string{full, short, blockOf(1, 1, 1, "A"), blockOf(mostScalars, 1, 1, "A")} {
					parsesNone(t, s+next, fail(api.ErrCount, len(s)+1))
					parsesNone(t, s+next+full+"AAA", fail(api.ErrCount, len(s)+1))
					parsesNone(t, s+next[:len(next)-1], fail(api.ErrCut, len(s)+len(next)-1))
				}
				parsesNone(t, s+"A", fail(api.ErrMagic, len(s)))
				parsesNone(t, s, fail(api.ErrCut, len(s)))
			}
		}
	}
}

func TestP212ParseTotals(t *testing.T) {
	x := api.Block{Count: 3, Sum: 0xFEDCBA98, Payload: "AB"}
	for _, l := range [][]api.Block{nil, {x}, {x, x, {Count: 1, Payload: "A"}}, slices.Repeat([]api.Block{x}, 300)} {
		c := api.Crate{Codec: 4, Size: 3, Blocks: l}
		s := spelt(c)
		p := len(s) - 25
		blocks, scalars, bytes := uint32(len(l)), uint64(0), uint64(p-14-13*len(l))
		for _, b := range l {
			scalars += uint64(b.Count)
		}
		parses(t, s[:p]+endOf(blocks, scalars, bytes), c)
		for _, d := range []uint64{1, math.MaxUint64, 256, 1 << 24, 1 << 31, 1 << 32, 1 << 40, 1 << 56, 1 << 63} {
			if n := uint32(d); n != 0 {
				parsesNone(t, s[:p]+endOf(blocks+n, scalars, bytes), fail(api.ErrTotal, p+1))
				parsesNone(t, s[:p]+endOf(blocks+n, scalars+d, bytes+d), fail(api.ErrTotal, p+1))
			}
			parsesNone(t, s[:p]+endOf(blocks, scalars+d, bytes), fail(api.ErrTotal, p+5))
			parsesNone(t, s[:p]+endOf(blocks, scalars+d, bytes+d)+"A", fail(api.ErrTotal, p+5))
			parsesNone(t, s[:p]+endOf(blocks, scalars, bytes+d), fail(api.ErrTotal, p+13))
			parsesNone(t, s[:p]+endOf(blocks, scalars, bytes+d)[:21]+"ABCD", fail(api.ErrTotal, p+13))
			for n := 1; n < 25; n++ {
				parsesNone(t, s[:p]+endOf(blocks+uint32(d), scalars+d, bytes+d)[:n], fail(api.ErrCut, p+n))
			}
		}
		sum := sumOf(s[p : p+21])
		for _, d := range []uint32{1, 0x100, 0x10000, 0x80000000, math.MaxUint32} {
			for _, behind := range []string{"", "A", s} {
				parsesNone(t, s[:p+21]+four(sum^d)+behind, fail(api.ErrSum, p+21))
			}
		}
	}
}

// Several things that aren't so: the first one is told.
func TestP212ParseSeveralErrors(t *testing.T) {
	s := spelt(crateOf(api.Utf8, 2, 0x41, 0x42, 0x43)) // its blocks begin at 14 and 29, its end at 43
	places := []struct {
		at int
		to byte
		f  api.Fail
	}{
		{0, 'X', fail(api.ErrMagic, 0)}, {1, 'X', fail(api.ErrMagic, 1)}, {2, 'X', fail(api.ErrMagic, 2)}, {3, 'X', fail(api.ErrMagic, 3)},
		{4, 2, fail(api.ErrVersion, 4)}, {5, 11, fail(api.ErrCodec, 5)}, {9, 1, fail(api.ErrCount, 6)}, {10, 0xFE, fail(api.ErrSum, 10)},
		{14, 'X', fail(api.ErrMagic, 14)}, {18, 1, fail(api.ErrCount, 15)}, {22, 1, fail(api.ErrLong, 19)}, {15, 9, fail(api.ErrCount, 15)},
		{29, 'X', fail(api.ErrMagic, 29)}, {33, 1, fail(api.ErrCount, 30)}, {37, 1, fail(api.ErrLong, 34)}, {30, 9, fail(api.ErrCount, 30)},
		{43, 'X', fail(api.ErrMagic, 43)}, {44, 9, fail(api.ErrTotal, 44)}, {48, 9, fail(api.ErrTotal, 48)}, {56, 9, fail(api.ErrTotal, 56)},
		{64, s[64] ^ 1, fail(api.ErrSum, 64)}, {68, 'X', fail(api.ErrMore, 68)},
	}
	for i, one := range places {
		for _, other := range places[i:] {
			b := []byte(s)
			if other.at == len(s) {
				b = append(b, 0)
			}
			b[other.at] = other.to
			b[one.at] = one.to
			parsesNone(t, string(b), one.f)
		}
	}
}

// The blocks' sums aren't looked at, nor what their payloads denote.
func TestP212ParseAnyBlocks(t *testing.T) {
	for c := 1; c <= api.Codecs; c++ {
		for err, blocks := range wrongBlocks(c) {
			for _, b := range blocks {
				k := api.Crate{Codec: c, Size: 3, Blocks: []api.Block{b, b, of(3, "\xFF"), {Count: 2, Sum: uint32(err), Payload: "A"}}}
				parses(t, spelt(k), k)
			}
		}
	}
}

func TestP212ParseAnyBytes(t *testing.T) {
	r := samples.From(212)
	all := crates()
	for range 30000 {
		b := []byte(spelt(all[r.Below(len(all))]))
		for range 1 + r.Below(3) {
			switch at := r.Below(len(b)); r.Below(5) {
			case 0:
				b[at] = byte(r.Below(256))
			case 1:
				b[at] ^= 1 << r.Below(8)
			case 2:
				b = slices.Delete(b, at, min(at+1+r.Below(16), len(b)-1))
			case 3:
				b = slices.Insert(b, at, b[at:min(at+1+r.Below(16), len(b))]...)
			case 4:
				b[at] = byte(r.Below(3))
			}
		}
		isParsed(t, string(b))
	}
}

// Other bytes that are a crate, too, are another crate's.
func TestP215OneSpelling(t *testing.T) {
	seen := map[string]bool{}
	for _, c := range crates() {
		s := spelt(c)
		if seen[s] {
			continue
		}
		seen[s] = true
		parses(t, s, c)
		prints(t, c, s, api.OK)
	}
}

// A crate that was read doesn't keep the bytes that it was read from.
func TestCratesThatAreReadAreForThemselves(t *testing.T) {
	s := spelt(crateOf(api.Utf8, 3, 0x41, 0x42, 0x43))
	c, _ := crate.Parse(s)
	if unsafe.StringData(c.Blocks[0].Payload) == unsafe.StringData(s[27:]) {
		t.Error("a crate's payload shares memory with what it was read from")
	}
}
