package crate_test

import (
	"encoding/binary"
	"hash/crc32"
	"math"
	"slices"
	"strings"
	"testing"

	"pilcrow/api"
	"pilcrow/codec"
	"pilcrow/crate"
	"pilcrow/samples"
)

// right is the Fail of what is right.
var right = api.Fail{}

// fail: an error, and its place.
func fail(err api.Errno, at int) api.Fail { return api.Fail{Err: err, At: at} }

// most are the greatest numbers that may be.
const (
	mostScalars = 65536
	mostBytes   = 1048576
)

// sumOf: the sum of bytes, which the library says.
func sumOf(s string) uint32 { return crc32.ChecksumIEEE([]byte(s)) }

// four and eight: a number as so many bytes.
func four(n uint32) string  { return string(binary.LittleEndian.AppendUint32(nil, n)) }
func eight(n uint64) string { return string(binary.LittleEndian.AppendUint64(nil, n)) }

// summed: bytes, and their sum.
func summed(s string) string { return s + four(sumOf(s)) }

// headOf, blockOf, endOf: the parts of a crate's bytes, by the chapter's
// words, whatever their numbers; the sums of a head and of an end are right.
func headOf(version, codec byte, size uint32) string {
	return summed("PILC" + string([]byte{version, codec}) + four(size))
}

func blockOf(count, size, sum uint32, payload string) string {
	return "\x42" + four(count) + four(size) + four(sum) + payload
}

func endOf(blocks uint32, scalars, bytes uint64) string {
	return summed("\x5A" + four(blocks) + eight(scalars) + eight(bytes))
}

// of: the block of this Count and Payload with the right sum.
func of(count int, payload string) api.Block {
	return api.Block{Count: count, Sum: sumOf(payload), Payload: payload}
}

// crateOf: the crate of these scalars, by the chapter's words.
func crateOf(c, size int, l ...uint32) api.Crate {
	k := api.Crate{Codec: c, Size: size}
	for part := range slices.Chunk(l, size) {
		s, _ := codec.Encode(c, part...)
		k.Blocks = append(k.Blocks, of(len(part), s))
	}
	return k
}

// spelt: a crate's bytes, by the chapter's words, whatever its numbers.
func spelt(c api.Crate) string {
	all := []string{headOf(1, byte(c.Codec), uint32(c.Size))}
	scalars, bytes := 0, 0
	for _, b := range c.Blocks {
		all = append(all, blockOf(uint32(b.Count), uint32(len(b.Payload)), b.Sum, b.Payload))
		scalars += b.Count
		bytes += len(b.Payload)
	}
	return strings.Join(all, "") + endOf(uint32(len(c.Blocks)), uint64(scalars), uint64(bytes))
}

// shown: a crate, for a message.
type shown struct {
	codec, size, blocks int
	first               []int
}

func show(c api.Crate) shown {
	s := shown{codec: c.Codec, size: c.Size, blocks: len(c.Blocks)}
	for _, b := range c.Blocks[:min(len(c.Blocks), 5)] {
		s.first = append(s.first, b.Count, len(b.Payload))
	}
	return s
}

// same: are two crates one?
func same(a, b api.Crate) bool {
	return a.Codec == b.Codec && a.Size == b.Size && slices.Equal(a.Blocks, b.Blocks)
}

// prints: Print answers these bytes, or this error and none.
func prints(t *testing.T, c api.Crate, want string, err api.Errno) {
	t.Helper()
	if s, got := crate.Print(c); s != want || got != err {
		t.Errorf("Print(%v): %.40X, %d bytes, %d, not %.40X, %d bytes, %d", show(c), s, len(s), got, want, len(want), err)
	}
}

// packs: Pack answers these bytes, or this Fail and none.
func packs(t *testing.T, c, size int, l []uint32, want string, f api.Fail) {
	t.Helper()
	if s, got := crate.Pack(c, size, l...); s != want || got != f {
		t.Errorf("Pack(%d, %d, %s), %d numbers: %.40X, %d bytes, %v, not %.40X, %d bytes, %v", c, size, samples.Hex(l), len(l), s, len(s), got, want, len(want), f)
	}
}

// packed: Pack's bytes.
func packed(t *testing.T, c, size int, l ...uint32) string {
	t.Helper()
	s, f := crate.Pack(c, size, l...)
	if f != right {
		t.Fatalf("Pack(%d, %d, %s), %d numbers: %v", c, size, samples.Hex(l), len(l), f)
	}
	return s
}

// unpacks: Unpack answers these scalars, or this Fail and none.
func unpacks(t *testing.T, s string, f api.Fail, want ...uint32) {
	t.Helper()
	if l, got := crate.Unpack(s); !slices.Equal(l, want) || got != f {
		t.Errorf("Unpack(%.60X), %d bytes: %s %v, not %s %v", s, len(s), samples.Hex(l), got, samples.Hex(want), f)
	}
}

// lists: no scalars, one of each size, two, many, and more than a thousand.
func lists() [][]uint32 {
	l := [][]uint32{nil}
	for _, a := range samples.Sizes() {
		l = append(l, []uint32{a}, []uint32{0x416, a, 0x436})
	}
	r := samples.From(21)
	for n := 2; n < 40; n += 3 {
		l = append(l, r.List(n))
	}
	return append(l, samples.Sizes(), r.List(1500))
}

// noSizes are numbers that no Size may be.
func noSizes() []int {
	return []int{
		0, -1, -2, -mostScalars, mostScalars + 1, mostScalars + 2, 2 * mostScalars, 1 << 24, 1 << 31, 1 << 32, 1<<32 + 1, 1<<32 + mostScalars, 1 << 62,
		math.MinInt, math.MinInt + 1, math.MinInt32, math.MaxInt32, math.MaxUint32, math.MaxInt - 1, math.MaxInt,
	}
}

func TestExamples(t *testing.T) {
	s := packed(t, api.Utf8, 2, 0x41, 0x42, 0x43)
	if len(s) != 68 {
		t.Errorf("%d bytes, not 68", len(s))
	}
	want := "PILC\x01\x01\x02\x00\x00\x00" + four(sumOf("PILC\x01\x01\x02\x00\x00\x00")) +
		"\x42\x02\x00\x00\x00\x02\x00\x00\x00" + four(sumOf("AB")) + "AB" +
		"\x42\x01\x00\x00\x00\x01\x00\x00\x00" + four(sumOf("C")) + "C" +
		"\x5A\x02\x00\x00\x00\x03\x00\x00\x00\x00\x00\x00\x00\x03\x00\x00\x00\x00\x00\x00\x00"
	if s[:64] != want || s[64:] != four(sumOf(want[43:])) {
		t.Errorf("%X, not %X", s, want)
	}
	unpacks(t, s, right, 0x41, 0x42, 0x43)
}

// The examples of the whole, as far as they are of crates.
func TestExamplesOfTheWhole(t *testing.T) {
	s := packed(t, api.Utf8, 1, 0x41)
	if len(s) != 53 || s[:10] != "\x50\x49\x4C\x43\x01\x01\x01\x00\x00\x00" {
		t.Errorf("%d bytes, %X", len(s), s)
	}
	unpacks(t, s, right, 0x41)
	turned := strings.Replace(s, "\x41", "\x43", 1)
	unpacks(t, turned, fail(api.ErrSum, 14))
	for _, x := range []struct {
		c int
		s string
		l []uint32
	}{
		{api.Utf8, "\x41\xC3\xA9\xE2\x82\xAC", []uint32{0x41, 0xE9, 0x20AC}}, {api.Utf16LE, "\x41\x00\xE9\x00\xAC\x20", []uint32{0x41, 0xE9, 0x20AC}},
		{api.Ebcdic, "\xC1", []uint32{0x41}}, {api.Utf16BE, "\xFE\xFF", []uint32{0xFEFF}}, {api.Utf32BE, "\x00\x00\xFE\xFF", []uint32{0xFEFF}},
		{api.Utf32LE, "\xFF\xFE\x00\x00", []uint32{0xFEFF}}, {api.Scsu, "\x0E\xFE\xFF", []uint32{0xFEFF}}, {api.Plain, "\x0E\xFE\xFF", []uint32{0xFEFF}},
		{api.Puny, "bcher-kva", []uint32{0x62, 0xFC, 0x63, 0x68, 0x65, 0x72}}, {api.Bocu, "\xD3\xCA\x86\x0A\x91", []uint32{0x416, 0x436, 0x0A, 0x41}},
	} {
		k := api.Crate{Codec: x.c, Size: 9, Blocks: []api.Block{of(len(x.l), x.s)}}
		packs(t, x.c, 9, x.l, spelt(k), right)
		unpacks(t, spelt(k), right, x.l...)
	}
}

// crates: some that may be, with none, one, and many blocks, of any sums.
func crates() []api.Crate {
	x := api.Block{Count: 3, Sum: 0xFEDCBA98, Payload: "A"}
	l := []api.Crate{
		{Codec: api.Utf8, Size: 3, Blocks: []api.Block{x}},
		{Codec: api.Utf16BE, Size: 3, Blocks: []api.Block{x, x, x}},
		{Codec: api.Plain, Size: 3, Blocks: []api.Block{x, x, {Count: 2, Sum: math.MaxUint32, Payload: "\x42\x5A"}}},
		{Codec: api.Bocu, Size: mostScalars, Blocks: []api.Block{{Count: mostScalars, Payload: "\xFF"}, {Count: 1, Sum: 1, Payload: "\x00\x00\x00"}}},
		{Codec: api.Puny, Size: 0x5A42, Blocks: []api.Block{{Count: 0x5A42, Sum: 0x42424242, Payload: "PILC"}}},
		{Codec: api.Scsu, Size: 256, Blocks: []api.Block{{Count: 256, Sum: 0x5A5A5A5A, Payload: strings.Repeat("B", 300)}, {Count: 255, Payload: "Z"}}},
	}
	for c := 1; c <= api.Codecs; c++ {
		for _, size := range []int{1, 2, 255, 256, 65535, mostScalars} {
			l = append(l, api.Crate{Codec: c, Size: size}, crateOf(c, size, 0x41), crateOf(c, size, 0x416, 0x4E00, 0x1F600, 0x41, 0x0A))
		}
	}
	return l
}

func TestP211Print(t *testing.T) {
	for _, c := range crates() {
		prints(t, c, spelt(c), api.OK)
	}
	prints(t, api.Crate{Codec: 10, Size: mostScalars}, "PILC\x01\x0A\x00\x00\x01\x00"+four(sumOf("PILC\x01\x0A\x00\x00\x01\x00"))+
		"\x5A"+strings.Repeat("\x00", 20)+four(sumOf("\x5A"+strings.Repeat("\x00", 20))), api.OK)
}

func TestP211PrintManyBlocks(t *testing.T) {
	for _, n := range []int{255, 256, 257, 65535, 65536, 65537} {
		c := api.Crate{Codec: api.Ebcdic, Size: 7, Blocks: slices.Repeat([]api.Block{{Count: 7, Sum: 9, Payload: "AB"}}, n)}
		prints(t, c, spelt(c), api.OK)
		c.Blocks = append(c.Blocks, api.Block{Count: 1, Payload: "A"})
		prints(t, c, spelt(c), api.OK)
	}
}

// manyScalars: a crate that has more scalars, by its Counts, than four bytes
// tell.
func manyScalars() api.Crate {
	return api.Crate{Codec: api.Utf16LE, Size: mostScalars, Blocks: slices.Repeat([]api.Block{{Count: mostScalars, Payload: "A"}}, 1<<16+1)}
}

func TestP211PrintManyScalars(t *testing.T) {
	s := spelt(manyScalars())
	prints(t, manyScalars(), s, api.OK)
	if end := s[len(s)-25:]; end[:21] != "\x5A\x01\x00\x01\x00\x00\x00\x01\x00\x01\x00\x00\x00\x01\x00\x01\x00\x00\x00\x00\x00" {
		t.Errorf("its end is %X", end)
	}
}

func TestP211PrintLongPayloads(t *testing.T) {
	long := api.Block{Count: 2, Sum: 5, Payload: strings.Repeat("A", mostBytes)}
	short := api.Block{Count: 2, Sum: 5, Payload: "B"}
	for _, l := range [][]api.Block{{long}, {long, short}, {short, long, short}, {short, long}, {long, long, long, long}} {
		c := api.Crate{Codec: api.Utf32LE, Size: 2, Blocks: l}
		prints(t, c, spelt(c), api.OK)
	}
}

// badBlocks: that no crate of a Size has, and what is told of each.
func badBlocks(size int) map[string][]api.Block {
	long := strings.Repeat("A", mostBytes+1)
	bad := map[string][]api.Block{}
	for _, n := range []int{0, -1, -size, size + 1, 2*size + 1, mostScalars + 1, math.MinInt, math.MinInt32, math.MaxInt, 1<<32 + size} {
		for _, s := range []string{"", "A", "ABC", long} {
			bad["count"] = append(bad["count"], of(n, s), api.Block{Count: n, Payload: s})
		}
	}
	for _, s := range []string{"", long, long + long} {
		bad["long"] = append(bad["long"], of(size, s), api.Block{Count: size, Sum: 7, Payload: s})
	}
	return bad
}

func TestP211PrintByNoCodec(t *testing.T) {
	for _, c := range samples.NoCodecs() {
		for _, size := range append(noSizes(), 1, 2, mostScalars) {
			for _, l := range [][]api.Block{nil, {of(1, "A")}, {{}}, {of(1, "A"), {Count: 1}}, {of(mostScalars+1, "A"), of(0, "")}} {
				prints(t, api.Crate{Codec: c, Size: size, Blocks: l}, "", api.ErrCodec)
			}
		}
	}
	prints(t, api.Crate{}, "", api.ErrCodec)
}

func TestP211PrintOfNoSize(t *testing.T) {
	long := strings.Repeat("A", mostBytes+1)
	for c := 1; c <= api.Codecs; c++ {
		for _, size := range noSizes() {
			for _, l := range [][]api.Block{nil, {}, {of(1, "A")}, {of(size, "A")}, {{}}, {of(1, "")}, {of(1, long), of(1, "A")}} {
				prints(t, api.Crate{Codec: c, Size: size, Blocks: l}, "", api.ErrCount)
			}
		}
	}
}

// A block that may not be, first, amid and last among others that may.
func TestP211PrintBadBlocks(t *testing.T) {
	for _, size := range []int{1, 2, 3, 1000, mostScalars} {
		good := of(size, "ABC")
		for word, err := range map[string]api.Errno{"count": api.ErrCount, "long": api.ErrLong} {
			for _, bad := range badBlocks(size)[word] {
				for _, l := range [][]api.Block{{bad}, {bad, good}, {good, bad, good}, {good, bad}, {good, good, good, bad}} {
					prints(t, api.Crate{Codec: api.Utf8, Size: size, Blocks: l}, "", err)
				}
			}
		}
	}
}

// Just the last block may have fewer scalars than Size.
func TestP211PrintShortBlocks(t *testing.T) {
	for _, size := range []int{2, 3, 1000, mostScalars} {
		good := of(size, "ABC")
		for _, n := range []int{1, size / 2, size - 1} {
			short := of(n, "AB")
			for _, l := range [][]api.Block{{short}, {good, short}, {good, good, good, short}} {
				c := api.Crate{Codec: api.Bocu, Size: size, Blocks: l}
				prints(t, c, spelt(c), api.OK)
			}
			for _, l := range [][]api.Block{{short, good}, {short, short}, {good, short, good}, {short, good, good}, {good, short, good, good, short}, {good, good, short, short}} {
				prints(t, api.Crate{Codec: api.Bocu, Size: size, Blocks: l}, "", api.ErrCount)
			}
		}
	}
}

// Of several blocks that may not be the first one tells, of one its Count.
func TestP211PrintSeveralErrors(t *testing.T) {
	good, short, none := of(3, "ABC"), of(2, "AB"), api.Block{Count: 3}
	many, both := of(4, "A"), api.Block{Count: 4}
	shortAndEmpty, long := api.Block{Count: 2}, of(3, strings.Repeat("A", mostBytes+1))
	for _, x := range []struct {
		l   []api.Block
		err api.Errno
	}{
		{[]api.Block{none, many}, api.ErrLong}, {[]api.Block{many, none}, api.ErrCount}, {[]api.Block{long, short, good}, api.ErrLong},
		{[]api.Block{short, long}, api.ErrCount}, {[]api.Block{good, none, short, good}, api.ErrLong}, {[]api.Block{good, short, none}, api.ErrCount},
		{[]api.Block{both}, api.ErrCount}, {[]api.Block{both, none}, api.ErrCount}, {[]api.Block{none, both}, api.ErrLong},
		{[]api.Block{shortAndEmpty}, api.ErrLong}, {[]api.Block{shortAndEmpty, good}, api.ErrCount}, {[]api.Block{good, shortAndEmpty}, api.ErrLong},
		{[]api.Block{short, many}, api.ErrCount}, {[]api.Block{{}, long}, api.ErrCount}, {[]api.Block{long, {}}, api.ErrLong},
	} {
		prints(t, api.Crate{Codec: api.Scsu, Size: 3, Blocks: x.l}, "", x.err)
	}
}

// around: lengths around a size, and around twice it.
func around(size int) []int {
	return []int{0, 1, size - 1, size, size + 1, 2*size - 1, 2 * size, 2*size + 1, 3 * size}
}

func TestP213Pack(t *testing.T) {
	r := samples.From(213)
	for c := 1; c <= api.Codecs; c++ {
		for _, l := range lists() {
			for _, size := range []int{1, 2, 3, len(l) + 1, 1000, mostScalars} {
				packs(t, c, size, l, spelt(crateOf(c, size, l...)), right)
			}
		}
		for _, size := range []int{1, 2, 3, 7, 256} {
			for _, n := range around(size) {
				l := r.List(n)
				packs(t, c, size, l, spelt(crateOf(c, size, l...)), right)
			}
		}
	}
}

func TestP213PackManyScalars(t *testing.T) {
	r := samples.From(2131)
	for c := 1; c <= api.Codecs; c++ {
		for _, size := range []int{mostScalars - 1, mostScalars} {
			for _, n := range []int{size - 1, size, size + 1, 2 * size} {
				l := slices.Repeat(r.List(64), n/64+1)[:n]
				s := spelt(crateOf(c, size, l...))
				packs(t, c, size, l, s, right)
				unpacks(t, s, right, l...)
			}
		}
	}
}

func TestP213PackErrors(t *testing.T) {
	many := slices.Repeat([]uint32{0x41}, mostScalars+1)
	for _, l := range [][]uint32{nil, {0x41}, {0xD800}, {0x41, 0x110000, 0xDFFF}, samples.Sizes(), samples.NoScalars(), many} {
		for _, c := range samples.NoCodecs() {
			for _, size := range append(noSizes(), 1, 2, mostScalars) {
				packs(t, c, size, l, "", fail(api.ErrCodec, 0))
			}
		}
		for c := 1; c <= api.Codecs; c++ {
			for _, size := range noSizes() {
				packs(t, c, size, l, "", fail(api.ErrCount, 0))
			}
		}
	}
}

func TestP213PackNoScalars(t *testing.T) {
	for c := 1; c <= api.Codecs; c++ {
		for _, size := range []int{1, 2, 3, mostScalars} {
			for _, bad := range samples.NoScalars() {
				packs(t, c, size, []uint32{bad}, "", fail(api.ErrScalar, 0))
				packs(t, c, size, []uint32{bad, 0x41}, "", fail(api.ErrScalar, 0))
				packs(t, c, size, []uint32{0x41, bad}, "", fail(api.ErrScalar, 1))
				packs(t, c, size, []uint32{0x416, 0x4E00, bad, 0x1F600}, "", fail(api.ErrScalar, 2))
				packs(t, c, size, []uint32{0x416, 0x4E00, 0x41, 0x42, 0x43, bad, bad, 0xD800}, "", fail(api.ErrScalar, 5))
			}
		}
		many := slices.Repeat([]uint32{0x416}, mostScalars+2)
		many[mostScalars+1] = 0xDFFF
		packs(t, c, mostScalars, many, "", fail(api.ErrScalar, mostScalars+1))
	}
}

func TestP213Unpack(t *testing.T) {
	for c := 1; c <= api.Codecs; c++ {
		for _, l := range lists() {
			for _, size := range []int{1, 2, 3, len(l) + 1, mostScalars} {
				unpacks(t, spelt(crateOf(c, size, l...)), right, l...)
			}
		}
	}
}

// wrongBlocks: of 3 scalars, that may be, but don't open.
func wrongBlocks(c int) map[api.Errno][]api.Block {
	l := []uint32{0x416, 0x41, 0x4E00}
	s, _ := codec.Encode(c, l...)
	more, _ := codec.Encode(c, append(l, 0x42)...)
	fewer, _ := codec.Encode(c, l[:2]...)
	wrong := map[api.Errno][]api.Block{
		api.ErrSum:   {{Count: 3, Sum: sumOf(s) + 1, Payload: s}, {Count: 3, Sum: ^sumOf(more), Payload: more}, {Count: 3, Sum: 9, Payload: "\xFF"}},
		api.ErrCount: {of(3, more), of(3, fewer)},
	}
	for _, bad := range samples.Broken(c) {
		wrong[bad.Fail.Err] = append(wrong[bad.Fail.Err], of(3, bad.Text))
	}
	return wrong
}

// What doesn't open is told with the place where its block begins, first,
// amid and last, and of several the first.
func TestP213UnpackWhatGoesWrong(t *testing.T) {
	for c := 1; c <= api.Codecs; c++ {
		good := crateOf(c, 3, 0x1F600, 0x41, 0x0A).Blocks[0]
		long := 13 + len(good.Payload)
		for err, blocks := range wrongBlocks(c) {
			for i, bad := range blocks {
				other := blocks[(i+1)%len(blocks)]
				sum := good
				sum.Sum ^= 0x100
				for _, x := range []struct {
					ahead int
					l     []api.Block
				}{
					{0, []api.Block{bad}}, {0, []api.Block{bad, good}}, {1, []api.Block{good, bad, good}}, {1, []api.Block{good, bad}},
					{3, []api.Block{good, good, good, bad}}, {0, []api.Block{bad, other}}, {2, []api.Block{good, good, bad, other, bad}},
					{1, []api.Block{good, bad, sum, good}}, {0, []api.Block{bad, sum}},
				} {
					unpacks(t, spelt(api.Crate{Codec: c, Size: 3, Blocks: x.l}), fail(err, 14+long*x.ahead))
				}
				unpacks(t, spelt(api.Crate{Codec: c, Size: 3, Blocks: []api.Block{sum, bad}}), fail(api.ErrSum, 14))
			}
		}
	}
}

// The blocks ahead have payloads of unlike sizes.
func TestP213UnpackTellsWhereTheBlockBegins(t *testing.T) {
	k := crateOf(api.Utf8, 2, 0x41, 0x42, 0x10FFFF, 0x20AC, 0xE9, 0x41, 0x43, 0x44, 0x45)
	at := 14
	for i, b := range k.Blocks {
		hurt := k
		hurt.Blocks = slices.Clone(k.Blocks)
		hurt.Blocks[i].Sum++
		unpacks(t, spelt(hurt), fail(api.ErrSum, at))
		for n := i + 1; n < len(k.Blocks); n++ {
			hurt.Blocks[n].Payload = "\xFF"
		}
		unpacks(t, spelt(hurt), fail(api.ErrSum, at))
		at += 13 + len(b.Payload)
	}
}

// A last block's Count may be less than its payload has.
func TestP213UnpackAWrongCountOfTheLastBlock(t *testing.T) {
	for c := 1; c <= api.Codecs; c++ {
		k := crateOf(c, 3, 0x41, 0x416, 0x42, 0x43, 0x44)
		k.Blocks[1].Count = 1
		unpacks(t, spelt(k), fail(api.ErrCount, 27+len(k.Blocks[0].Payload)))
		k.Blocks[1].Count = 3
		unpacks(t, spelt(k), fail(api.ErrCount, 27+len(k.Blocks[0].Payload)))
		k.Blocks[0].Sum++
		unpacks(t, spelt(k), fail(api.ErrSum, 14))
	}
	unpacks(t, spelt(api.Crate{Codec: api.Scsu, Size: 1, Blocks: []api.Block{of(1, "\x11")}}), fail(api.ErrCount, 14))
}

// What Parse tells comes ahead of all that the blocks' payloads are.
func TestP213UnpackTellsParsesFail(t *testing.T) {
	hurt := api.Crate{Codec: api.Utf8, Size: 1, Blocks: []api.Block{{Count: 1, Sum: 1, Payload: "A"}, of(1, "\xFF")}}
	s := spelt(hurt)
	unpacks(t, s, fail(api.ErrSum, 14))
	for n := range len(s) {
		unpacks(t, s[:n], fail(api.ErrCut, n))
	}
	unpacks(t, s+"A", fail(api.ErrMore, len(s)))
	for at := range len(s) {
		other := []byte(s)
		other[at] ^= 0x80
		_, f := crate.Parse(string(other))
		if f == right {
			f = fail(api.ErrSum, 14)
		}
		unpacks(t, string(other), f)
	}
}

func TestP215ThereAndBack(t *testing.T) {
	for c := 1; c <= api.Codecs; c++ {
		for _, l := range lists() {
			for _, size := range []int{1, 2, 5, len(l) + 1, mostScalars} {
				s := packed(t, c, size, l...)
				unpacks(t, s, right, l...)
				k, f := crate.Parse(s)
				if f != right {
					t.Fatalf("Parse(%.60X), %d bytes: %v", s, len(s), f)
				}
				prints(t, k, s, api.OK)
				bytes := 39
				for _, b := range k.Blocks {
					bytes += 13 + len(b.Payload)
				}
				if blocks := (len(l) + size - 1) / size; len(s) != bytes || len(k.Blocks) != blocks {
					t.Errorf("Pack(%d, %d, %s): %d bytes, %d blocks, not %d, %d", c, size, samples.Hex(l), len(s), len(k.Blocks), bytes, blocks)
				}
			}
		}
	}
}

// Behind a burst in a payload its block is told, and no other one.
func TestP215Bursts(t *testing.T) {
	r := samples.From(215)
	for c := 1; c <= api.Codecs; c++ {
		for _, k := range []api.Crate{crateOf(c, 9, r.List(25)...), crateOf(c, 400, r.List(1200)...), crateOf(c, 5, 0x41, 0x42, 0x43, 0x44, 0x45)} {
			at := 14
			for _, b := range k.Blocks {
				for bits := 1; bits <= 32; bits++ {
					last := 8*len(b.Payload) - bits
					for _, from := range []int{0, 1, last / 2, last/2 + 5, last - 1, last, r.Below(max(last, 0) + 1)} {
						if from < 0 || from > last {
							continue
						}
						hurt := samples.Burst(spelt(k), 8*(at+13)+from, bits, uint32(r.Below(1<<24)))
						unpacks(t, hurt, fail(api.ErrSum, at))
					}
				}
				at += 13 + len(b.Payload)
			}
		}
	}
}

func TestWhatIsHandedInStays(t *testing.T) {
	for c := 0; c <= api.Codecs+1; c++ {
		for _, l := range append(lists(), []uint32{0x41, 0xD800, 0x42}) {
			list, all := samples.Roomy(l, 0xDEAD)
			was := slices.Clone(all)
			s, _ := crate.Pack(c, 2, list...)
			if !slices.Equal(all, was) {
				t.Errorf("Pack(%d, 2, %s): the list isn't what it was", c, samples.Hex(l))
			}
			samples.Spoil(list, 0xBEEF)
			if again, _ := crate.Pack(c, 2, l...); again != s {
				t.Errorf("Pack(%d, 2, %s): what is packed isn't for itself", c, samples.Hex(l))
			}
		}
	}
	for _, c := range crates() {
		list, all := samples.Roomy(c.Blocks, of(1, "spare"))
		was := slices.Clone(all)
		crate.Print(api.Crate{Codec: c.Codec, Size: c.Size, Blocks: list})
		if !slices.Equal(all, was) {
			t.Errorf("Print(%v): the blocks aren't what they were", show(c))
		}
	}
}

func TestAnswersAreNewMemory(t *testing.T) {
	for c := 1; c <= api.Codecs; c++ {
		for _, l := range lists() {
			s := packed(t, c, 3, l...)
			one, _ := crate.Unpack(s)
			other, _ := crate.Unpack(s)
			samples.Spoil(one, 0xDEAD)
			if !slices.Equal(other, l) {
				t.Errorf("Unpack(%.60X): two answers share memory", s)
			}
			k, _ := crate.Parse(s)
			again, _ := crate.Parse(s)
			samples.Spoil(k.Blocks, api.Block{})
			if !same(again, crateOf(c, 3, l...)) {
				t.Errorf("Parse(%.60X): two answers share memory", s)
			}
			unpacks(t, s, right, l...)
		}
	}
}
