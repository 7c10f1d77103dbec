package verify_test

import (
	"fmt"
	"hash/crc32"
	"slices"
	"strings"
	"testing"

	"pilcrow/api"
	"pilcrow/codec"
	"pilcrow/crate"
	"pilcrow/samples"
	"pilcrow/verify"
)

// right is the Fail of what is right.
var right = api.Fail{}

// fail: an error, and its place.
func fail(err api.Errno, at int) api.Fail { return api.Fail{Err: err, At: at} }

// short: anything, for a message.
func short(x any) string { return fmt.Sprintf("%.300s", fmt.Sprint(x)) }

// sumOf: the sum of bytes, which the library says.
func sumOf(s string) uint32 { return crc32.ChecksumIEEE([]byte(s)) }

// of: the block of this Count and Payload with the right sum.
func of(count int, payload string) api.Block {
	return api.Block{Count: count, Sum: sumOf(payload), Payload: payload}
}

// off: that block, but some bits of its sum are turned.
func off(count int, payload string, by uint32) api.Block {
	return api.Block{Count: count, Sum: sumOf(payload) ^ by, Payload: payload}
}

// bytesOf: what is made of so many scalars of all sizes by a codec.
func bytesOf(c, n int) string {
	l := make([]uint32, n)
	for i := range l {
		l[i] = []uint32{0x41, 0xE9, 0x416, 0x20AC, 0x1F600}[i%5]
	}
	s, _ := codec.Encode(c, l...)
	return s
}

// printed: the bytes of the crate of these blocks.
func printed(t *testing.T, c, size int, blocks ...api.Block) string {
	t.Helper()
	s, err := crate.Print(api.Crate{Codec: c, Size: size, Blocks: blocks})
	if err != api.OK {
		t.Fatalf("Print, codec %d, size %d, %d blocks: %d", c, size, len(blocks), err)
	}
	return s
}

// packed: the bytes of the crate of these scalars.
func packed(t *testing.T, c, size int, l ...uint32) string {
	t.Helper()
	s, f := crate.Pack(c, size, l...)
	if f != right {
		t.Fatalf("Pack(%d, %d, %s): %v", c, size, samples.Hex(l), f)
	}
	return s
}

// good: Good answers this, and Unpack tells no Fail just if so.
func good(t *testing.T, s string, want bool) {
	t.Helper()
	_, f := crate.Unpack(s)
	if got := verify.Good(s); got != want || (f == right) != want {
		t.Errorf("Good(%.60X), %d bytes: %v, Unpack %v, not %v", s, len(s), got, f, want)
	}
}

// finds: Check answers a finding of each block, by their Fails in turn.
func finds(t *testing.T, s string, fails ...api.Fail) {
	t.Helper()
	want, well := make([]api.Finding, len(fails)), true
	for i, f := range fails {
		want[i] = api.Finding{Block: i, Err: f.Err, At: f.At}
		well = well && f == right
	}
	if l, f := verify.Check(s); f != right || !slices.Equal(l, want) {
		t.Errorf("Check(%.60X), %d bytes: %s %v, not %s", s, len(s), short(l), f, short(want))
	}
	good(t, s, well)
}

// tells: Check answers a Fail, and no findings.
func tells(t *testing.T, s string, want api.Fail) {
	t.Helper()
	if l, f := verify.Check(s); f != want || len(l) != 0 {
		t.Errorf("Check(%.60X), %d bytes: %s %v, not %v", s, len(s), short(l), f, want)
	}
	good(t, s, false)
}

// allRight: so many Fails of what is right.
func allRight(n int) []api.Fail { return make([]api.Fail, n) }

// odd is a block with which something is wrong, and what is found of it.
type odd struct {
	block api.Block
	fail  api.Fail
}

// odds: some of a Count by a codec: of a wrong sum, of a payload that goes
// wrong or is cut off, of too few or too many scalars, of two of these.
func odds(c, count int) []odd {
	s, sum := bytesOf(c, count), fail(api.ErrSum, 0)
	l := []odd{
		{off(count, s, 1), sum}, {off(count, s, 1<<31), sum}, {off(count, s, 0xFFFFFFFF), sum}, {off(count, s, 0xFF00), sum},
	}
	for _, n := range []int{count - 1, count + 1, count + 2, 100} {
		if n > 0 {
			l = append(l, odd{of(count, bytesOf(c, n)), fail(api.ErrCount, n)}, odd{off(count, bytesOf(c, n), 4), sum})
		}
	}
	for _, w := range samples.Broken(c) {
		l = append(l, odd{of(count, w.Text), w.Fail}, odd{off(count, w.Text, 0x10000), sum})
	}
	return l
}

// The crates that are right: without blocks, of one, of many; the last one is
// full, or isn't.
func TestP221Right(t *testing.T) {
	r := samples.From(22)
	for c := 1; c <= api.Codecs; c++ {
		for _, size := range []int{1, 2, 3, 50, 65536} {
			for _, n := range []int{0, 1, 2, 3, 4, 5, 6, 7, 49, 50, 51, 100} {
				finds(t, packed(t, c, size, r.List(n)...), allRight((n+size-1)/size)...)
			}
		}
		for _, a := range samples.Sizes() {
			finds(t, packed(t, c, 2, a, a, a), right, right)
		}
	}
}

func TestP221CutOff(t *testing.T) {
	for c := 1; c <= api.Codecs; c++ {
		for _, n := range []int{0, 1, 3, 7} {
			s := packed(t, c, 3, samples.Sizes()[20:20+n]...)
			for i := range s {
				tells(t, s[:i], fail(api.ErrCut, i))
			}
			finds(t, s, allRight((n+2)/3)...)
		}
	}
}

// Of a crate with one byte changed: a block of which the sum or the payload
// has it is found wrong; all other bytes, Parse sees.
func TestP221ChangedBytes(t *testing.T) {
	for c := 1; c <= api.Codecs; c++ {
		parts := []string{bytesOf(c, 3), bytesOf(c, 3), bytesOf(c, 2)}
		s := printed(t, c, 3, of(3, parts[0]), of(3, parts[1]), of(2, parts[2]))
		owners := make([]int, len(s))
		at := 14
		for i, part := range parts {
			for j := range 4 + len(part) {
				owners[at+9+j] = i + 1
			}
			at += 13 + len(part)
		}
		for i, owner := range owners {
			for _, by := range []byte{1, 2, 4, 8, 16, 32, 64, 128, 255} {
				b := []byte(s)
				b[i] ^= by
				want := allRight(3)
				if owner != 0 {
					want[owner-1] = fail(api.ErrSum, 0)
					finds(t, string(b), want...)
					continue
				}
				if _, f := crate.Parse(string(b)); f == right {
					t.Errorf("codec %d, byte %d by %d: a crate", c, i, by)
				} else {
					tells(t, string(b), f)
				}
			}
		}
	}
}

func TestP221NoCrates(t *testing.T) {
	for c := 1; c <= api.Codecs; c++ {
		for _, n := range []int{0, 1, 2, 5} {
			s := packed(t, c, 2, samples.Sizes()[:n]...)
			for _, more := range []string{"\x00", "\x42", "\x5A", "P", "more", s} {
				tells(t, s+more, fail(api.ErrMore, len(s)))
			}
		}
	}
	s := packed(t, api.Utf8, 2, 0x41, 0x42, 0x43)
	changed := func(at int, by byte) string { return s[:at] + string([]byte{s[at] ^ by}) + s[at+1:] }
	for _, x := range []struct {
		s    string
		want api.Fail
	}{
		{"", fail(api.ErrCut, 0)}, {"P", fail(api.ErrCut, 1)}, {"X", fail(api.ErrMagic, 0)}, {"PILD", fail(api.ErrMagic, 3)}, {"PILC", fail(api.ErrCut, 4)},
		{changed(0, 1), fail(api.ErrMagic, 0)}, {changed(4, 1), fail(api.ErrVersion, 4)}, {changed(5, 1), fail(api.ErrCodec, 5)}, {changed(5, 16), fail(api.ErrCodec, 5)},
		{changed(6, 2), fail(api.ErrCount, 6)}, {changed(6, 1), fail(api.ErrSum, 10)}, {changed(10, 1), fail(api.ErrSum, 10)}, {changed(14, 1), fail(api.ErrMagic, 14)},
		{changed(15, 3), fail(api.ErrCount, 30)}, {changed(15, 2), fail(api.ErrCount, 15)}, {changed(19, 2), fail(api.ErrLong, 19)}, {changed(43, 8), fail(api.ErrMagic, 43)},
		{changed(44, 1), fail(api.ErrTotal, 44)}, {changed(48, 1), fail(api.ErrTotal, 48)}, {changed(56, 1), fail(api.ErrTotal, 56)}, {changed(64, 1), fail(api.ErrSum, 64)},
		{s[:14] + s, fail(api.ErrMagic, 14)}, {s[:43], fail(api.ErrCut, 43)}, {s[:43] + "\x42", fail(api.ErrCut, 44)},
	} {
		tells(t, x.s, x.want)
	}
}

// What goes wrong behind a block isn't told beside what is wrong with it.
func TestP221NoFindingsBesideAFail(t *testing.T) {
	for c := 1; c <= api.Codecs; c++ {
		for _, x := range odds(c, 3) {
			s := printed(t, c, 3, x.block, of(3, bytesOf(c, 3)), x.block)
			tells(t, s+"!", fail(api.ErrMore, len(s)))
			tells(t, s[:len(s)-1], fail(api.ErrCut, len(s)-1))
			tells(t, s[:len(s)-1]+string([]byte{s[len(s)-1] ^ 1}), fail(api.ErrSum, len(s)-4))
		}
	}
}

// One block alone, the first, one amid, the last, two, and all go wrong.
func TestP221Odd(t *testing.T) {
	for c := 1; c <= api.Codecs; c++ {
		well := of(3, bytesOf(c, 3))
		for _, x := range odds(c, 3) {
			finds(t, printed(t, c, 3, x.block), x.fail)
			for _, where := range [][]int{{0}, {1}, {2}, {3}, {0, 1}, {0, 3}, {1, 2}, {2, 3}, {0, 1, 2, 3}} {
				blocks, want := []api.Block{well, well, well, well}, allRight(4)
				for _, i := range where {
					blocks[i], want[i] = x.block, x.fail
				}
				finds(t, printed(t, c, 3, blocks...), want...)
			}
		}
	}
}

// The last block has fewer scalars than Size.
func TestP221OddLast(t *testing.T) {
	for c := 1; c <= api.Codecs; c++ {
		for count := 1; count < 4; count++ {
			for _, x := range odds(c, count) {
				well := of(4, bytesOf(c, 4))
				finds(t, printed(t, c, 4, x.block), x.fail)
				finds(t, printed(t, c, 4, well, well, x.block), right, right, x.fail)
				finds(t, printed(t, c, 4, odds(c, 4)[0].block, well, x.block), fail(api.ErrSum, 0), right, x.fail)
			}
		}
	}
}

// Unlike things are wrong with unlike blocks, right ones between them.
func TestP221Several(t *testing.T) {
	for c := 1; c <= api.Codecs; c++ {
		l := odds(c, 3)
		for from := range l {
			var blocks []api.Block
			var want []api.Fail
			for i := range 2 * len(l) {
				x := l[(from+i*3)%len(l)]
				if (from+i)%4 == 3 {
					x = odd{of(3, bytesOf(c, 3)), right}
				}
				blocks, want = append(blocks, x.block), append(want, x.fail)
			}
			finds(t, printed(t, c, 3, blocks...), want...)
		}
	}
}

// What is wrong by hand: a block's place is in its payload, not in the crate.
func TestP221ByHand(t *testing.T) {
	s := printed(t, api.Utf8, 2,
		of(2, "AB"), of(2, "A\x80"), off(2, "A\x80", 1), of(2, "A"), of(2, "ABC"), of(2, "AB\xC3"), off(2, "ABC", 1), of(2, "\xFFA"), of(2, "\xE2\x82\xAC\xE2\x82\xAC"), of(1, "AB"))
	finds(t, s, right, fail(api.ErrForm, 1), fail(api.ErrSum, 0), fail(api.ErrCount, 1), fail(api.ErrCount, 3), fail(api.ErrCut, 3),
		fail(api.ErrSum, 0), fail(api.ErrForm, 0), right, fail(api.ErrCount, 2))
	finds(t, printed(t, api.Puny, 3, of(3, "a-!"), of(3, "ab"), of(3, "abc-"), of(3, "\x80")), fail(api.ErrCut, 3), fail(api.ErrCount, 2), right, fail(api.ErrForm, 0))
	finds(t, printed(t, api.Utf16LE, 1, of(1, "\x00\xDC"), of(1, "\x3D\xD8\x00\xDE"), of(1, "A\x00B\x00")), fail(api.ErrForm, 1), right, fail(api.ErrCount, 2))
	finds(t, printed(t, api.Bocu, 1, of(1, "\x4F"), of(1, "\x91"), of(1, "\xD3")), fail(api.ErrForm, 0), right, fail(api.ErrCut, 1))
	finds(t, printed(t, api.Scsu, 1, of(1, "\x18\x00"), of(1, "A")), fail(api.ErrForm, 1), right)
	finds(t, printed(t, api.Plain, 1, of(1, "A"), of(1, "\x0E")), right, fail(api.ErrCut, 1))
}

func TestP221GreatestBlocks(t *testing.T) {
	const most = 65536
	for c := 1; c <= api.Codecs; c++ {
		of1 := func(n int) string {
			s, _ := codec.Encode(c, slices.Repeat([]uint32{0x41}, n)...)
			return s
		}
		full := of1(most)
		s := printed(t, c, most, of(most, full), of(most, of1(most-1)), of(most, of1(most+1)), off(most, full, 1<<7), of(most, full), of(most-1, full))
		finds(t, s, right, fail(api.ErrCount, most-1), fail(api.ErrCount, most+1), fail(api.ErrSum, 0), right, fail(api.ErrCount, most))
	}
	longest := strings.Repeat("A", 1048576)
	finds(t, printed(t, api.Utf8, most, of(most, longest), of(most, longest[:most]+"\x80"), of(most, longest[1:]+"\xC3"), of(most, longest[1:]+"\x80")),
		fail(api.ErrCount, 1048576), fail(api.ErrForm, most), fail(api.ErrCut, 1048576), fail(api.ErrForm, 1048575))
}

// The numbers of blocks count all of them, whatever is wrong with those ahead.
func TestP221ManyBlocks(t *testing.T) {
	const n = 3000
	for c := 1; c <= api.Codecs; c++ {
		l := odds(c, 2)
		for _, every := range []int{1, 2, 7, n - 1} {
			blocks, want := slices.Repeat([]api.Block{of(2, bytesOf(c, 2))}, n), allRight(n)
			for i := 0; i < n; i += every {
				x := l[i/every%len(l)]
				blocks[i], want[i] = x.block, x.fail
			}
			finds(t, printed(t, c, 2, blocks...), want...)
		}
	}
}

// Behind bursts in the payloads of some blocks just these are found wrong.
func TestP223Bursts(t *testing.T) {
	r := samples.From(223)
	for c := 1; c <= api.Codecs; c++ {
		part := bytesOf(c, 9)
		for bits := 1; bits <= 32; bits++ {
			spare := 8*len(part) - bits
			for _, from := range []int{0, 1, spare / 2, spare - 1, spare, r.Below(spare + 1)} {
				for which := range 1 << 3 {
					blocks, want := []api.Block{of(9, part), of(9, part), of(9, part)}, allRight(3)
					for i := range blocks {
						if which>>i&1 == 1 {
							blocks[i].Payload = samples.Burst(part, from, bits, uint32(r.Below(1<<24))<<8^uint32(r.Below(1<<16)))
							want[i] = fail(api.ErrSum, 0)
						}
					}
					finds(t, printed(t, c, 9, blocks...), want...)
				}
			}
		}
	}
}

// Many bytes that are nearly a crate's: Good is what Unpack says.
func TestP223GoodJustIfUnpacked(t *testing.T) {
	r := samples.From(322)
	for range 4000 {
		c := 1 + r.Below(api.Codecs)
		b := []byte(packed(t, c, 1+r.Below(4), r.List(r.Below(12))...))
		for range r.Below(3) {
			b[r.Below(len(b))] ^= byte(1 << r.Below(8))
		}
		_, f := crate.Unpack(string(b))
		good(t, string(b), f == right)
		l, g := verify.Check(string(b))
		k, parse := crate.Parse(string(b))
		if g != parse || len(l) != len(k.Blocks) {
			t.Errorf("Check(%.60X): %s %v, not %v and %d", b, short(l), g, parse, len(k.Blocks))
		}
	}
}

func TestAnswersShareNothing(t *testing.T) {
	s := packed(t, api.Utf8, 1, 0x41, 0x42, 0x43)
	one, _ := verify.Check(s)
	two, _ := verify.Check(s)
	samples.Spoil(one, api.Finding{Block: 9, Err: 9, At: 9})
	if want := []api.Finding{{Block: 0}, {Block: 1}, {Block: 2}}; !slices.Equal(two, want) {
		t.Errorf("%v, not %v", two, want)
	}
	finds(t, s, right, right, right)
}

func TestNothingPanics(t *testing.T) {
	r := samples.From(2222)
	for range 5000 {
		b := make([]byte, r.Below(200))
		for i := range b {
			b[i] = byte(r.Below(256))
		}
		for _, s := range []string{string(b), "PILC\x01" + string(b), packed(t, 1+r.Below(api.Codecs), 2)[:14] + "\x42" + string(b)} {
			l, f := verify.Check(s)
			if f == right || len(l) != 0 {
				t.Errorf("Check(%.60X): %s %v", s, short(l), f)
			}
			good(t, s, false)
		}
	}
}
