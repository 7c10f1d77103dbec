package ebcdic_test

import (
	"fmt"
	"math"
	"slices"
	"strconv"
	"strings"
	"testing"

	"pilcrow/api"
	"pilcrow/ebcdic"
	"pilcrow/mod8"
	"pilcrow/permute"
	"pilcrow/scalar"
)

// scalars: how many there are.
const scalars = 0x110000 - 0x800

// chapter: what the bytes of 00 to 9F become, as layer 7's chapter lists it.
const chapter = `
00 01 02 03 37 2D 2E 2F 16 05 15 0B 0C 0D 0E 0F
10 11 12 13 3C 3D 32 26 18 19 3F 27 1C 1D 1E 1F
40 5A 7F 7B 5B 6C 50 7D 4D 5D 5C 4E 6B 60 4B 61
F0 F1 F2 F3 F4 F5 F6 F7 F8 F9 7A 5E 4C 7E 6E 6F
7C C1 C2 C3 C4 C5 C6 C7 C8 C9 D1 D2 D3 D4 D5 D6
D7 D8 D9 E2 E3 E4 E5 E6 E7 E8 E9 AD E0 BD 5F 6D
79 81 82 83 84 85 86 87 88 89 91 92 93 94 95 96
97 98 99 A2 A3 A4 A5 A6 A7 A8 A9 C0 4F D0 A1 07
20 21 22 23 24 25 06 17 28 29 2A 2B 2C 09 0A 1B
30 31 1A 33 34 35 36 08 38 39 3A 3B 04 14 3E FF
`

// becomes: what all 256 bytes become, by that chapter's words.
var becomes = func() []byte {
	var l []byte
	for _, w := range strings.Fields(chapter) {
		n, err := strconv.ParseUint(w, 16, 8)
		if err != nil {
			panic(err)
		}
		l = append(l, byte(n))
	}
	for b, listed := 0, l; b < 256; b++ {
		if !slices.Contains(listed, byte(b)) {
			l = append(l, byte(b))
		}
	}
	return l
}()

// drawn: a scalar's bytes ahead of the table, bit by bit as layer 6's chapter
// draws them.
func drawn(c uint32) []byte {
	row := "111110xx 101xxxxx 101xxxxx 101xxxxx 101xxxxx"
	switch {
	case c <= 0x9F:
		row = "xxxxxxxx"
	case c <= 0x3FF:
		row = "110xxxxx 101xxxxx"
	case c <= 0x3FFF:
		row = "1110xxxx 101xxxxx 101xxxxx"
	case c <= 0x3FFFF:
		row = "11110xxx 101xxxxx 101xxxxx 101xxxxx"
	}
	left := strings.Count(row, "x")
	out := []byte{0}
	for _, r := range row {
		if r == ' ' {
			out = append(out, 0)
			continue
		}
		bit := byte(r - '0')
		if r == 'x' {
			left--
			bit = byte(c>>left) & 1
		}
		out[len(out)-1] = out[len(out)-1]<<1 | bit
	}
	return out
}

// spelt: a scalar's bytes.
func spelt(c uint32) string {
	l := drawn(c)
	for i, b := range l {
		l[i] = becomes[b]
	}
	return string(l)
}

// speltAll: the bytes of a list, one scalar's behind the other's.
func speltAll(l []uint32) string {
	var b strings.Builder
	for _, c := range l {
		b.WriteString(spelt(c))
	}
	return b.String()
}

// eachScalar calls f with all of them, the least one first.
func eachScalar(f func(c uint32)) {
	for c := uint32(0); c <= 0x10FFFF; c++ {
		if c < 0xD800 || c > 0xDFFF {
			f(c)
		}
	}
}

// edges: the first and the last scalars of each length, and of what lies between.
var edges = []uint32{0, 0x41, 0x7F, 0x80, 0x85, 0x9F, 0xA0, 0xE9, 0x3FF, 0x400, 0x20AC, 0x3FFF, 0x4000, 0xD7FF, 0xE000, 0xFEFF, 0xFFFF, 0x10000, 0x3FFFF, 0x40000, 0xFFFFF, 0x100000, 0x10FFFF}

// rooms: below 1, 1, few, more than enough; of some of them five times as much
// is no number.
var rooms = []int{math.MinInt, math.MinInt / 5, -1, 0, 1, 2, 3, 4, 5, 7, 1000, math.MaxInt/5 + 1, math.MaxInt/2 + 1, math.MaxInt}

// decoder is all that a decoder tells of itself.
type decoder struct {
	at   int
	fail api.Fail
	done bool
}

func decoderOf(d *ebcdic.Decoder) decoder { return decoder{d.At(), d.Fail(), d.Done()} }

// encoder is all that an encoder tells of itself.
type encoder struct {
	at   int
	fail api.Fail
	done bool
	kept int
}

func encoderOf(e *ebcdic.Encoder) encoder { return encoder{e.At(), e.Fail(), e.Done(), e.Kept()} }

// form, cut and wrong: what goes wrong, and where.
func form(at int) api.Fail  { return api.Fail{Err: api.ErrForm, At: at} }
func cut(at int) api.Fail   { return api.Fail{Err: api.ErrCut, At: at} }
func wrong(at int) api.Fail { return api.Fail{Err: api.ErrScalar, At: at} }

// read: what a whole text tells, and how it ends.
func read(s string) ([]uint32, api.Fail) {
	d := ebcdic.NewDecoder()
	_, l := d.Feed(s, math.MaxInt)
	d.End()
	return l, d.Fail()
}

// write: what is made of a whole list, and how it ends.
func write(l []uint32) (string, api.Fail) {
	e := ebcdic.NewEncoder()
	_, s := e.Feed(l, math.MaxInt)
	e.End()
	return s, e.Fail()
}

func TestP81New(t *testing.T) {
	d := ebcdic.NewDecoder()
	if decoderOf(d) != (decoder{}) {
		t.Error(decoderOf(d))
	}
	if n, l := d.Feed("", 9); n != 0 || len(l) != 0 || decoderOf(d) != (decoder{}) {
		t.Error(n, l, decoderOf(d))
	}
	d.End()
	if decoderOf(d) != (decoder{done: true}) {
		t.Error("the empty text denotes no scalars:", decoderOf(d))
	}
}

// known: scalars, and their bytes, written out.
var known = []struct {
	c uint32
	s string
}{
	{0, "\x00"}, {0x0A, "\x15"}, {0x20, "\x40"}, {0x41, "\xC1"}, {0x61, "\x81"}, {0x7A, "\xA9"}, {0x7F, "\x07"}, {0x80, "\x20"}, {0x85, "\x25"}, {0x9F, "\xFF"},
	{0xA0, "\x80\x41"}, {0xBF, "\x80\x73"}, {0xC0, "\x8A\x41"}, {0xE9, "\x8B\x4A"}, {0x3FF, "\xB6\x73"},
	{0x400, "\xB8\x41\x41"}, {0x7FF, "\xB8\x73\x73"}, {0x800, "\xB9\x41\x41"}, {0x20AC, "\xCA\x46\x53"}, {0x3FFF, "\xDB\x73\x73"},
	{0x4000, "\xDC\x57\x41\x41"}, {0x7FFF, "\xDC\x73\x73\x73"}, {0x8000, "\xDD\x41\x41\x41"}, {0xD7FF, "\xDD\x64\x73\x73"},
	{0xE000, "\xDD\x67\x41\x41"}, {0xFEFF, "\xDD\x73\x66\x73"}, {0xFFFF, "\xDD\x73\x73\x73"},
	{0x10000, "\xDE\x41\x41\x41"}, {0x1F600, "\xDF\x71\x57\x41"}, {0x3FFFF, "\xEC\x73\x73\x73"},
	{0x40000, "\xED\x49\x41\x41\x41"}, {0xFFFFF, "\xED\x73\x73\x73\x73"}, {0x100000, "\xEE\x41\x41\x41\x41"}, {0x10FFFF, "\xEE\x42\x73\x73\x73"},
}

func TestP81Known(t *testing.T) {
	for _, x := range known {
		d := ebcdic.NewDecoder()
		if n, l := d.Feed(x.s, 1); n != len(x.s) || !slices.Equal(l, []uint32{x.c}) {
			t.Errorf("% X: %d, %X", x.s, n, l)
		}
		if got := decoderOf(d); got != (decoder{at: len(x.s)}) {
			t.Errorf("% X: %v", x.s, got)
		}
		d.End()
		if got := decoderOf(d); got != (decoder{at: len(x.s), done: true}) {
			t.Errorf("% X, and End: %v", x.s, got)
		}
	}
}

// whole: the scalars by their bytes. beginnings: all that scalars' bytes begin
// with, but are not.
var whole, beginnings = func() (map[string]uint32, map[string]bool) {
	w, m := make(map[string]uint32, scalars), map[string]bool{"": true}
	eachScalar(func(c uint32) {
		s := spelt(c)
		w[s] = c
		for i := 1; i < len(s); i++ {
			m[s[:i]] = true
		}
	})
	return w, m
}()

// With every byte behind every beginning, the text is right so far just if it
// is such a beginning again, or a scalar's bytes; and all scalars are met. (Of
// the wrong bytes behind the many beginnings of three and four bytes an eighth
// is tried, each byte behind many of them.)
func TestP81EveryByteBehindEveryBeginning(t *testing.T) {
	met := 0
	for p := range beginnings {
		for b := range 256 {
			s := p + string([]byte{byte(b)})
			c, is := whole[s]
			if len(p) > 2 && !is && !beginnings[s] && (int(p[len(p)-1])+int(p[len(p)-2])+b)%8 != 0 {
				continue
			}
			d := ebcdic.NewDecoder()
			n, l := d.Feed(s, 9)
			got := decoderOf(d)
			switch {
			case is:
				met++
				if n != len(s) || !slices.Equal(l, []uint32{c}) || got != (decoder{at: n}) {
					t.Fatalf("% X: %d, %X, %v", s, n, l, got)
				}
			case beginnings[s]:
				if n != len(s) || len(l) != 0 || got != (decoder{at: n}) {
					t.Fatalf("% X, a beginning: %d, %X, %v", s, n, l, got)
				}
			default:
				if n != len(p) || len(l) != 0 || got != (decoder{n, form(n), true}) {
					t.Fatalf("% X, no beginning: %d, %X, %v", s, n, l, got)
				}
			}
		}
	}
	if met != scalars {
		t.Error(met, "scalars were read")
	}
}

// broken: texts that go wrong at a byte, and where.
var broken = []struct {
	s  string
	at int
}{
	{"\x41", 0}, {"\x41\x41", 0}, {"\x56", 0}, {"\x65\x41", 0}, {"\x73", 0},
	{"\x74", 0}, {"\x74\x41", 0}, {"\x75\x73", 0}, {"\x78", 0}, {"\x78\x73", 0}, {"\xB7", 0}, {"\xB7\x41\x41", 0}, {"\xB7\x73\x73", 0},
	{"\xEF", 0}, {"\xEF\x41\x41\x41\x41", 0}, {"\xFA\x73\x73\x73\x73", 0}, {"\xFB\x41\x41\x41\x41\x41", 0}, {"\xFC", 0}, {"\xFD\xFE", 0}, {"\xFE\xFD", 0},
	{"\xDC\x41", 1}, {"\xDC\x56", 1}, {"\xDC\x56\x73\x73", 1}, {"\xED\x41", 1}, {"\xED\x48", 1}, {"\xED\x48\x73\x73\x73", 1},
	{"\xDD\x65", 1}, {"\xDD\x65\x41\x41", 1}, {"\xDD\x66", 1}, {"\xDD\x66\x73\x73", 1}, {"\xEE\x43", 1}, {"\xEE\x43\x41\x41\x41", 1}, {"\xEE\x73", 1},
	{"\x80\xFF", 1}, {"\x80\x74", 1}, {"\x80\x40", 1}, {"\xB6\x20", 1}, {"\x80\x80\x41", 1}, {"\xB8\xFF", 1}, {"\xCA\x4D\x46", 1}, {"\xDB\xB7", 1},
	{"\xDC\x30", 1}, {"\xDD\xAB", 1}, {"\xEC\xFE", 1}, {"\xED\x28", 1}, {"\xED\x74", 1}, {"\xEE\x00", 1}, {"\xEE\x21", 1},
	{"\xB8\x41\xFF", 2}, {"\xCA\x46\x74", 2}, {"\xCA\x46\xCA\x46\x53", 2}, {"\xDC\x57\x20", 2}, {"\xDD\x64\x74", 2}, {"\xED\x49\x40", 2}, {"\xEE\x42\xFE", 2},
	{"\xDC\x57\x41\xFF", 3}, {"\xDD\x67\x41\x74", 3}, {"\xED\x49\x41\x25", 3}, {"\xEE\x42\x73\xB6", 3},
	{"\xED\x49\x41\x41\xFF", 4}, {"\xEE\x42\x73\x73\x74", 4}, {"\xEE\x42\x73\x73\xEE\x42\x73\x73\x73", 4},
}

func TestP81Broken(t *testing.T) {
	for _, x := range broken {
		for _, ahead := range [][]uint32{{}, {0x41}, {0x10FFFF, 0, 0x9F, 0xA0, 0x3FFF}} {
			s := speltAll(ahead) + x.s + "\xC2\xCA\x46\x53"
			at := len(speltAll(ahead)) + x.at
			for _, room := range []int{len(ahead) + 1, 99, math.MaxInt} {
				d := ebcdic.NewDecoder()
				n, l := d.Feed(s, room)
				if n != at || !slices.Equal(l, ahead) || decoderOf(d) != (decoder{at, form(at), true}) {
					t.Errorf("% X: %d, %X, %v", s, n, l, decoderOf(d))
				}
			}
		}
	}
}

// Bytes that no scalar's begin with.
func TestP81NoFirstBytes(t *testing.T) {
	none := "\x41\x42\x43\x44\x45\x46\x47\x48\x49\x4A\x51\x52\x53\x54\x55\x56\x57\x58\x59\x62\x63\x64\x65\x66\x67\x68\x69\x6A\x70\x71\x72\x73" +
		"\x74\x75\x76\x77\x78\xB7\xEF\xFA\xFB\xFC\xFD\xFE"
	for i := range len(none) {
		s := "\xC1" + none[i:i+1] + "\x41\x41\x41\x41"
		d := ebcdic.NewDecoder()
		if n, l := d.Feed(s, 9); n != 1 || !slices.Equal(l, []uint32{0x41}) || decoderOf(d) != (decoder{1, form(1), true}) {
			t.Errorf("% X: %d, %X, %v", s, n, l, decoderOf(d))
		}
	}
}

// A text that ends behind some of a scalar's bytes is right so far, and
// denotes nothing.
func TestP81Cut(t *testing.T) {
	begun := []string{"\x80", "\xB6", "\xB8", "\xDB", "\xDC", "\xDC\x57", "\xDD", "\xDD\x64", "\xDD\x67", "\xEC\x73", "\xED", "\xED\x49", "\xEE", "\xEE\x41", "\xEE\x42"}
	for _, c := range edges {
		for i := 1; i < len(spelt(c)); i++ {
			begun = append(begun, spelt(c)[:i])
		}
	}
	for _, s := range begun {
		for _, ahead := range [][]uint32{{}, {0x41}, {0xFFFF, 0x9F}, {0x10FFFF}} {
			whole := speltAll(ahead) + s
			d := ebcdic.NewDecoder()
			if n, l := d.Feed(whole, 99); n != len(whole) || !slices.Equal(l, ahead) || decoderOf(d) != (decoder{at: n}) {
				t.Errorf("% X: %d, %X, %v", whole, n, l, decoderOf(d))
			}
			d.End()
			if got := decoderOf(d); got != (decoder{len(whole), cut(len(whole)), true}) {
				t.Errorf("% X, and End: %v", whole, got)
			}
		}
	}
}

// facts: which scalar is complete with which byte of a text, and at which byte
// it goes wrong (its length, if it doesn't).
func facts(s string) (complete map[int]uint32, bad int) {
	complete = map[int]uint32{}
	from := 0
	for i := range len(s) {
		p := s[from : i+1]
		if c, ok := whole[p]; ok {
			complete[i] = c
			from = i + 1
		} else if !beginnings[p] {
			return complete, i
		}
	}
	return complete, len(s)
}

// texts: right ones, such as are cut off, and such as go wrong.
func texts() []string {
	l := []string{
		"", "\xC1", "\xC1\xC2\xC3", "\x25", "\x80\x41", "\xC1\x8B\x4A\xCA\x46\x53\xFF", "\xDF\x71\x57\x41\xEE\x42\x73\x73\x73",
		"\xEE\x42\x73\x73\x73\xED\x49\x41\x41\x41\xEE\x41\x41\x41\x41\xED\x73\x73\x73\x73",
		"\xCA\x46", "\xC1\xDF\x71\x57", "\x8B\x4A\x8B", "\xC2\xED\x49\x41\x41", "\xDD\x64", "\xDC", "\xEE\x42\x73\x73\x73\xEE\x42\x73\x73",
		"\x41", "\xC1\xC2\x8B\x4D", "\xCA\x46\x53\xB7\x41\xC1", "\xCA\x46\x53\xEE\x43", "\xDD\x73\x73\x71\xDD\x65", "\xC1\xDF\x71\x57\xC1",
		"\xFF\xEE\x42\x73\x73\x74", "\x80\x41\xDC\x56", "\x25\xFB", "\xB6\x73\x78",
	}
	return append(l, speltAll(edges))
}

// feedParts hands a text to a decoder in parts that end at the given places,
// each one so often till nothing is eaten of it any more, with the rooms in
// turn; and holds each answer against the facts. It tells all that was told.
func feedParts(t *testing.T, s string, ends []int, turn []int) []uint32 {
	complete, bad := facts(s)
	d := ebcdic.NewDecoder()
	var all []uint32
	at, calls := 0, 0
	for _, end := range append(ends, len(s)) {
		for more := true; more; calls++ {
			room := turn[calls%len(turn)]
			var want []uint32
			to, failed := at, false
			for to < end && len(want) < room && !failed {
				if failed = to == bad; !failed {
					if c, ok := complete[to]; ok {
						want = append(want, c)
					}
					to++
				}
			}
			failed = failed || d.Fail() != api.Fail{}
			n, l := d.Feed(s[at:end], room)
			if n != to-at || !slices.Equal(l, want) || d.At() != to {
				t.Fatalf("% X from %d to %d, room %d: %d, %X, at %d, not %d, %X", s, at, end, room, n, l, d.At(), to-at, want)
			}
			if got := decoderOf(d); failed && got != (decoder{bad, form(bad), true}) || !failed && got != (decoder{at: to}) {
				t.Fatalf("% X up to %d: %v", s, to, got)
			}
			all = append(all, l...)
			more = at < end && !failed && (n > 0 || room < 1)
			at = to
		}
	}
	endOf(t, d, s)
	return all
}

// endOf ends a decoder that a whole text was handed to.
func endOf(t *testing.T, d *ebcdic.Decoder, s string) {
	complete, bad := facts(s)
	want := decoder{bad, cut(bad), true}
	if _, ok := complete[bad-1]; ok || bad == 0 {
		want.fail = api.Fail{}
	}
	if bad < len(s) {
		want.fail = form(bad)
	}
	d.End()
	if decoderOf(d) != want {
		t.Fatalf("% X, and End: %v, not %v", s, decoderOf(d), want)
	}
}

func TestP81PartsAndRooms(t *testing.T) {
	turns := [][]int{{math.MaxInt}, {1}, {2}, {3}, {0, 1}, {-1, 2, 1}, {1, 5, math.MinInt}}
	for _, s := range texts() {
		whole, _ := read(s)
		for i := range len(s) + 1 {
			for j := i; j <= len(s); j++ {
				for _, turn := range turns {
					if got := feedParts(t, s, []int{i, j}, turn); !slices.Equal(got, whole) {
						t.Fatalf("% X, cut at %d and %d: %X, not %X", s, i, j, got, whole)
					}
				}
			}
		}
	}
}

// Each room's first call on each text, in one part.
func TestP81EveryRoom(t *testing.T) {
	for _, s := range texts() {
		complete, bad := facts(s)
		for _, room := range rooms {
			var want []uint32
			to := 0
			for to < bad && len(want) < room {
				if c, ok := complete[to]; ok {
					want = append(want, c)
				}
				to++
			}
			is := decoder{at: to}
			if to == bad && bad < len(s) && len(want) < room {
				is = decoder{to, form(to), true}
			}
			d := ebcdic.NewDecoder()
			if n, l := d.Feed(s, room); n != to || !slices.Equal(l, want) || decoderOf(d) != is {
				t.Errorf("% X, room %d: %d, %X, %v", s, room, n, l, decoderOf(d))
			}
		}
	}
}

// Bytes of a scalar that isn't complete take no room.
func TestP81RoomIsOfScalars(t *testing.T) {
	d := ebcdic.NewDecoder()
	for i, b := range []string{"\xEE", "\x42", "\x73", "\x73"} {
		if n, l := d.Feed(b, 1); n != 1 || len(l) != 0 || decoderOf(d) != (decoder{at: i + 1}) {
			t.Error(i, n, l, decoderOf(d))
		}
	}
	if n, l := d.Feed("\x73\xCA", 1); n != 1 || !slices.Equal(l, []uint32{0x10FFFF}) {
		t.Error(n, l)
	}
	if n, l := d.Feed("\xCA\x46", 1); n != 2 || len(l) != 0 || d.At() != 7 {
		t.Error(n, l)
	}
	if n, l := d.Feed("\x53\x41", 1); n != 1 || !slices.Equal(l, []uint32{0x20AC}) || decoderOf(d) != (decoder{at: 8}) {
		t.Error(n, l, decoderOf(d))
	}
}

// Without room no byte is looked at, not even a wrong one.
func TestP81NoRoom(t *testing.T) {
	for _, s := range append(texts(), "\xFE\xFE") {
		for _, room := range []int{0, -1, math.MinInt} {
			d := ebcdic.NewDecoder()
			if n, l := d.Feed(s, room); n != 0 || len(l) != 0 || decoderOf(d) != (decoder{}) {
				t.Errorf("% X, room %d: %d, %X, %v", s, room, n, l, decoderOf(d))
			}
		}
	}
	d := ebcdic.NewDecoder()
	if n, l := d.Feed("\xC1\x41", 1); n != 1 || !slices.Equal(l, []uint32{0x41}) || decoderOf(d) != (decoder{at: 1}) {
		t.Error("behind the last scalar that there is room for:", n, l, decoderOf(d))
	}
	if n, l := d.Feed("\x41", 0); n != 0 || len(l) != 0 || decoderOf(d) != (decoder{at: 1}) {
		t.Error("without room:", n, l, decoderOf(d))
	}
	if n, l := d.Feed("\x41", 1); n != 0 || len(l) != 0 || decoderOf(d) != (decoder{1, form(1), true}) {
		t.Error("with room:", n, l, decoderOf(d))
	}
}

// All that is left of a long text is handed in by each of many calls with room
// for one: a call's work must not grow with what it doesn't look at.
func TestP81LittleRoomOfALongText(t *testing.T) {
	var all []uint32
	eachScalar(func(c uint32) { all = append(all, c) })
	s := speltAll(all)
	d := ebcdic.NewDecoder()
	for _, c := range all {
		n, l := d.Feed(s, 1)
		if n != len(spelt(c)) || !slices.Equal(l, []uint32{c}) {
			t.Fatalf("%X: %d, %X", c, n, l)
		}
		s = s[n:]
	}
	d.End()
	if s != "" || !d.Done() || d.Fail() != (api.Fail{}) {
		t.Error(len(s), decoderOf(d))
	}
}

// stays: whatever is called, such a decoder is as it was, and tells nothing.
func stays(t *testing.T, d *ebcdic.Decoder, how string) {
	t.Helper()
	was := decoderOf(d)
	for range 2 {
		for _, s := range []string{"", "\xC1", "\x25", "\x41", "\x53", "\xCA\x46\x53", "\xEE\x42\x73\x73\x73", "\xFE"} {
			for _, room := range rooms {
				if n, l := d.Feed(s, room); n != 0 || len(l) != 0 || decoderOf(d) != was {
					t.Errorf("%s, then % X: %d, %X, %v", how, s, n, l, decoderOf(d))
				}
			}
		}
		d.End()
		if decoderOf(d) != was {
			t.Errorf("%s, then End: %v, not %v", how, decoderOf(d), was)
		}
	}
}

func TestP81BehindAFailure(t *testing.T) {
	for _, x := range broken {
		d := ebcdic.NewDecoder()
		d.Feed("\xC1"+x.s, 9)
		if decoderOf(d) != (decoder{x.at + 1, form(x.at + 1), true}) {
			t.Errorf("% X: %v", x.s, decoderOf(d))
		}
		stays(t, d, fmt.Sprintf("C1 % X", x.s))
	}
	for at := 2; at < 6; at++ {
		d := ebcdic.NewDecoder()
		d.Feed("\xC1\xED\x49\x41\x41"[:at], 9)
		d.End()
		if decoderOf(d) != (decoder{at, cut(at), true}) {
			t.Error(decoderOf(d))
		}
		stays(t, d, "cut off")
	}
}

func TestP81BehindAnEnd(t *testing.T) {
	for _, s := range []string{"", "\xC1", "\xFF", "\xCA\x46\x53", "\xEE\x42\x73\x73\x73\x00"} {
		d := ebcdic.NewDecoder()
		d.Feed(s, 9)
		d.End()
		if decoderOf(d) != (decoder{at: len(s), done: true}) {
			t.Errorf("% X: %v", s, decoderOf(d))
		}
		stays(t, d, fmt.Sprintf("% X, ended", s))
	}
}

// What one call told isn't touched by the next ones, nor they by what is done to it.
func TestP81WhatIsToldIsNewMemory(t *testing.T) {
	d := ebcdic.NewDecoder()
	_, first := d.Feed("\xC1\xC2\xC3\xC4\xC5", 2)
	was := slices.Clone(first)
	_, second := d.Feed("\xC3\xC4\xC5", 2)
	if !slices.Equal(first, was) || !slices.Equal(second, []uint32{'C', 'D'}) {
		t.Error(first, second)
	}
	first[0] = 7
	_ = append(first, 8, 9)
	second[1] = 6
	_ = append(second[:0], 5, 5, 5, 5)
	if _, third := d.Feed("\xC5\xCA\x46\x53", 2); !slices.Equal(third, []uint32{'E', 0x20AC}) {
		t.Error(third)
	}
	if first[1] != 'B' {
		t.Error(first)
	}
}

func TestP81DecodersAreForThemselves(t *testing.T) {
	a, b := ebcdic.NewDecoder(), ebcdic.NewDecoder()
	a.Feed("\xCA", 9)
	b.Feed("\xDF\x71", 9)
	a.Feed("\x46", 9)
	if n, l := b.Feed("\x57\x41", 9); n != 2 || !slices.Equal(l, []uint32{0x1F600}) {
		t.Error(n, l)
	}
	if n, l := a.Feed("\x53", 9); n != 1 || !slices.Equal(l, []uint32{0x20AC}) {
		t.Error(n, l)
	}
	b.Feed("\xFE", 9)
	if decoderOf(a) != (decoder{at: 3}) || decoderOf(b) != (decoder{4, form(4), true}) {
		t.Error(decoderOf(a), decoderOf(b))
	}
}

func TestP82New(t *testing.T) {
	e := ebcdic.NewEncoder()
	if encoderOf(e) != (encoder{}) {
		t.Error(encoderOf(e))
	}
	if n, s := e.Feed(nil, 9); n != 0 || s != "" || encoderOf(e) != (encoder{}) {
		t.Error(n, s, encoderOf(e))
	}
	e.End()
	if encoderOf(e) != (encoder{done: true}) {
		t.Error(encoderOf(e))
	}
}

func TestP82Known(t *testing.T) {
	for _, x := range known {
		if s, f := write([]uint32{x.c}); s != x.s || f != (api.Fail{}) {
			t.Errorf("%X: % X, %v", x.c, s, f)
		}
	}
}

// Every scalar's bytes are kept where there is no room, five of them at most.
func TestP82EveryScalar(t *testing.T) {
	e := ebcdic.NewEncoder()
	at := 0
	eachScalar(func(c uint32) {
		want := spelt(c)
		at++
		if n, s := e.Feed([]uint32{c, c}, 0); n != 1 || s != "" || encoderOf(e) != (encoder{at: at, kept: len(want)}) {
			t.Fatalf("%X: %d, % X, %v", c, n, s, encoderOf(e))
		}
		if e.Kept() > 5 {
			t.Fatalf("%X: %d bytes are kept", c, e.Kept())
		}
		if n, s := e.Feed(nil, 9); n != 0 || s != want || encoderOf(e) != (encoder{at: at}) {
			t.Fatalf("%X: % X, not % X", c, s, want)
		}
	})
	if at != scalars {
		t.Error(at)
	}
}

func TestP82NoScalars(t *testing.T) {
	l := []uint32{0x110000, 0x110001, 0x1FFFFF, 0x200000, 0x7FFFFFFF, 0x80000000, 0x80000041, math.MaxUint32}
	for c := uint32(0xD800); c <= 0xDFFF; c++ {
		l = append(l, c)
	}
	for _, c := range l {
		for _, ahead := range [][]uint32{{}, {0x41}, {0x10FFFF, 0xD7FF, 0xE000}} {
			e := ebcdic.NewEncoder()
			at := len(ahead)
			n, s := e.Feed(append(slices.Clone(ahead), c, 0x42, 0xD800), 99)
			if n != at || s != speltAll(ahead) || encoderOf(e) != (encoder{at, wrong(at), true, 0}) {
				t.Fatalf("%X behind %X: %d, % X, %v", c, ahead, n, s, encoderOf(e))
			}
		}
	}
}

// feedScalars hands a list to an encoder in parts that end at the given places,
// each one so often till nothing of it is left, or it has failed, with the
// rooms in turn; and holds each answer against what the bytes must be.
func feedScalars(t *testing.T, l []uint32, ends []int, turn []int) string {
	bad := scalar.First(l...)
	if bad < 0 {
		bad = len(l)
	}
	e := ebcdic.NewEncoder()
	made, all, at, calls := "", "", 0, 0 // made: of what was eaten; all: what was told of it
	for _, end := range append(ends, len(l)) {
		for more := true; more; calls++ {
			room := turn[calls%len(turn)]
			free := max(room, 0)
			want := made[len(all):]
			to, failed := at, false
			for to < end && len(want) <= free && !failed {
				if failed = to == bad; !failed {
					made += spelt(l[to])
					want += spelt(l[to])
					to++
				}
			}
			failed = failed || e.Fail() != api.Fail{}
			want = want[:min(free, len(want))]
			n, s := e.Feed(l[at:end], room)
			all += s
			kept := len(made) - len(all)
			if n != to-at || s != want || e.At() != to || e.Kept() != kept || kept > 5 {
				t.Fatalf("%X from %d to %d, room %d: %d, % X, %v, not %d, % X", l, at, end, room, n, s, encoderOf(e), to-at, want)
			}
			if got := encoderOf(e); failed && got != (encoder{bad, wrong(bad), true, 0}) || !failed && got != (encoder{at: to, kept: kept}) {
				t.Fatalf("%X up to %d: %v", l, to, got)
			}
			at = to
			more = at < end && !failed
		}
	}
	was := e.Fail()
	e.End()
	if encoderOf(e) != (encoder{at, was, len(all) == len(made), len(made) - len(all)}) {
		t.Fatalf("%X, and End: %v", l, encoderOf(e))
	}
	n, s := e.Feed(l, 5)
	if n != 0 || all+s != made || encoderOf(e) != (encoder{at, was, true, 0}) {
		t.Fatalf("%X, behind End: %d, % X, %v", l, n, s, encoderOf(e))
	}
	return made
}

func TestP82PartsAndRooms(t *testing.T) {
	turns := [][]int{{math.MaxInt}, {1}, {2}, {3}, {4}, {5}, {6}, {0, 1}, {-1, 2, 1}, {1, 7, math.MinInt}}
	lists := [][]uint32{
		{}, {0x41}, {0x41, 0x42, 0x43}, {0x41, 0xE9, 0x20AC, 0x1F600}, {0x10FFFF, 0x10FFFF, 0}, {0x9F, 0xA0, 0x9F},
		{0xD800}, {0x41, 0xDFFF, 0x42}, {0x20AC, 0x20AC, 0x110000}, {0x10FFFF, math.MaxUint32, 0x41},
		edges,
	}
	for _, l := range lists {
		whole, _ := write(l)
		for i := range len(l) + 1 {
			for j := i; j <= len(l); j++ {
				for _, turn := range turns {
					if got := feedScalars(t, l, []int{i, j}, turn); got != whole {
						t.Fatalf("%X, cut at %d and %d: % X, not % X", l, i, j, got, whole)
					}
				}
			}
		}
	}
}

// While it keeps bytes it looks at no number; while it keeps none it looks at
// one, room or not.
func TestP82WhatIsKeptComesFirst(t *testing.T) {
	e := ebcdic.NewEncoder()
	if n, s := e.Feed([]uint32{0x40000, 0xD800}, 4); n != 1 || s != "\xED\x49\x41\x41" || encoderOf(e) != (encoder{at: 1, kept: 1}) {
		t.Errorf("%d, % X, %v", n, s, encoderOf(e))
	}
	for _, room := range []int{0, -1, math.MinInt} {
		if n, s := e.Feed([]uint32{0xD800}, room); n != 0 || s != "" || encoderOf(e) != (encoder{at: 1, kept: 1}) {
			t.Errorf("room %d: %d, % X, %v", room, n, s, encoderOf(e))
		}
	}
	if n, s := e.Feed([]uint32{0x20AC, 0xD800}, 2); n != 1 || s != "\x41\xCA" || encoderOf(e) != (encoder{at: 2, kept: 2}) {
		t.Errorf("%d, % X, %v", n, s, encoderOf(e))
	}
	if n, s := e.Feed([]uint32{0xD800}, 2); n != 0 || s != "\x46\x53" || encoderOf(e) != (encoder{2, wrong(2), true, 0}) {
		t.Errorf("%d, % X, %v", n, s, encoderOf(e))
	}
	for _, room := range []int{0, -1, math.MinInt} {
		e := ebcdic.NewEncoder()
		if n, s := e.Feed([]uint32{0x41, 0x42}, room); n != 1 || s != "" || encoderOf(e) != (encoder{at: 1, kept: 1}) {
			t.Errorf("room %d: %d, % X, %v", room, n, s, encoderOf(e))
		}
		e = ebcdic.NewEncoder()
		if n, s := e.Feed([]uint32{0xDFFF}, room); n != 0 || s != "" || encoderOf(e) != (encoder{0, wrong(0), true, 0}) {
			t.Errorf("room %d: %d, % X, %v", room, n, s, encoderOf(e))
		}
	}
}

// Where the room is just full nothing is kept, so that one more is eaten.
func TestP82FullRoom(t *testing.T) {
	e := ebcdic.NewEncoder()
	if n, s := e.Feed([]uint32{0x20AC, 0xA0, 0x43}, 3); n != 2 || s != "\xCA\x46\x53" || encoderOf(e) != (encoder{at: 2, kept: 2}) {
		t.Errorf("%d, % X, %v", n, s, encoderOf(e))
	}
	if n, s := e.Feed([]uint32{0xD800}, 2); n != 0 || s != "\x80\x41" || encoderOf(e) != (encoder{2, wrong(2), true, 0}) {
		t.Errorf("%d, % X, %v", n, s, encoderOf(e))
	}
}

// What is kept is told behind an end, too, by whatever rooms; nothing else is.
func TestP82BehindAnEnd(t *testing.T) {
	want := "\xEE\x42\x73\x73\x72" // of 10FFFE
	for _, room := range rooms {
		e := ebcdic.NewEncoder()
		e.Feed([]uint32{0x10FFFE}, 0)
		e.End()
		told := 0
		for _, l := range [][]uint32{{0x41}, {0xD800}, nil} {
			if encoderOf(e) != (encoder{at: 1, kept: 5 - told, done: told == 5}) {
				t.Errorf("room %d: %v", room, encoderOf(e))
			}
			k := min(max(room, 0), 5-told)
			if n, s := e.Feed(l, room); n != 0 || s != want[told:told+k] {
				t.Errorf("room %d: %d, % X, %v", room, n, s, encoderOf(e))
			}
			told += k
			e.End()
		}
	}
}

func TestP82BehindAFailure(t *testing.T) {
	e := ebcdic.NewEncoder()
	e.Feed([]uint32{0x20AC, 0x110000}, 9)
	for range 2 {
		for _, l := range [][]uint32{nil, {0x41}, {0xD800}, {0x110000, 0x41}} {
			for _, room := range rooms {
				if n, s := e.Feed(l, room); n != 0 || s != "" || encoderOf(e) != (encoder{1, wrong(1), true, 0}) {
					t.Errorf("%X: %d, % X, %v", l, n, s, encoderOf(e))
				}
			}
		}
		e.End()
	}
}

func TestP82WhatIsHandedInStays(t *testing.T) {
	for _, room := range rooms {
		full := []uint32{0x41, 0x20AC, 0x10FFFF, 0xD800, 7, 8, 9}
		was := slices.Clone(full)
		e := ebcdic.NewEncoder()
		e.Feed(full[:2], room)
		e.Feed(full[2:4], room)
		if !slices.Equal(full, was) {
			t.Errorf("room %d: %X", room, full)
		}
	}
	l := []uint32{0x20AC}
	e := ebcdic.NewEncoder()
	e.Feed(l, 0)
	l[0] = 0x41
	if _, s := e.Feed(nil, 9); s != "\xCA\x46\x53" {
		t.Errorf("% X: what was eaten hangs on the list still", s)
	}
}

func TestP82EncodersAreForThemselves(t *testing.T) {
	a, b := ebcdic.NewEncoder(), ebcdic.NewEncoder()
	a.Feed([]uint32{0x20AC}, 1)
	b.Feed([]uint32{0x1F600}, 1)
	if _, s := a.Feed(nil, 9); s != "\x46\x53" {
		t.Errorf("% X", s)
	}
	if _, s := b.Feed([]uint32{0xD800}, 9); s != "\x71\x57\x41" {
		t.Errorf("% X", s)
	}
	if encoderOf(a) != (encoder{at: 1}) || encoderOf(b) != (encoder{1, wrong(1), true, 0}) {
		t.Error(encoderOf(a), encoderOf(b))
	}
}

// carry writes a list and reads it again, by so many scalars or bytes and so
// much room a call. Each call gets on by a scalar or a byte: more calls than
// there are of both are none of a machine that ends.
func carry(l []uint32, part, room int) (string, []uint32) {
	e, d := ebcdic.NewEncoder(), ebcdic.NewDecoder()
	var text strings.Builder
	most := 6*len(l) + 2
	for i := 0; i < most && !e.Done(); i++ {
		n, s := e.Feed(l[:min(part, len(l))], room)
		text.WriteString(s)
		if l = l[n:]; len(l) == 0 {
			e.End()
		}
	}
	var back []uint32
	s := text.String()
	for i := 0; i < most && !d.Done(); i++ {
		n, c := d.Feed(s[:min(part, len(s))], room)
		back = append(back, c...)
		if s = s[n:]; len(s) == 0 {
			d.End()
		}
	}
	return text.String(), back
}

func TestP83ThereAndBack(t *testing.T) {
	var all []uint32
	eachScalar(func(c uint32) { all = append(all, c) })
	text := speltAll(all)
	for _, x := range []struct{ part, room int }{{len(all) * 5, math.MaxInt}, {1, 1}, {3, 2}, {2, 5}, {1000, 7}} {
		s, back := carry(all, x.part, x.room)
		if s != text {
			t.Errorf("parts of %d, room %d: written otherwise", x.part, x.room)
		}
		if !slices.Equal(back, all) {
			t.Errorf("parts of %d, room %d: read otherwise", x.part, x.room)
		}
	}
	slices.Reverse(all)
	if _, back := carry(all, 100, 100); !slices.Equal(back, all) {
		t.Error("the greatest ones first: read otherwise")
	}
}

// short: every text of up to four bytes that lie at the edges of layer 6's rows.
func short() []string {
	at := "\x00\xC1\xFF\x41\x42\x43\x48\x49\x56\x57\x64\x65\x66\x67\x73\x74\x78\x80\xB6\xB7\xB8\xDB\xDC\xDD\xED\xEE\xEF"
	all := []string{""}
	for from := 0; len(all[from]) < 4; from++ {
		for i := range len(at) {
			all = append(all, all[from]+at[i:i+1])
		}
	}
	return all
}

// What a text tells are the scalars whose bytes stand ahead of where it goes
// wrong, and if it denotes something, it is just these.
func TestP83ReadAndWrittenAgain(t *testing.T) {
	denoting := 0
	for _, s := range append(short(), texts()...) {
		l, f := read(s)
		again, _ := write(l)
		_, bad := facts(s)
		if f == (api.Fail{}) {
			denoting++
			if again != s {
				t.Fatalf("% X: % X again", s, again)
			}
		} else if f.At != bad || (f.Err == api.ErrForm) != (bad < len(s)) {
			t.Fatalf("% X: %v, not at %d", s, f, bad)
		}
		if !strings.HasPrefix(s, again) || len(again) > bad {
			t.Fatalf("% X: % X is told ahead of %d", s, again, bad)
		}
	}
	if denoting < 100 {
		t.Error("only", denoting, "of the texts denote something")
	}
}

// sixth: what layer 6's decoder tells of a whole text, and how it ends.
func sixth(s string) ([]uint32, api.Fail) {
	d := mod8.NewDecoder()
	_, l := d.Feed(s, math.MaxInt)
	d.End()
	return l, d.Fail()
}

// Turned back by the table, a text tells layer 6's decoder the same scalars,
// and goes wrong at the same place, in the same way.
func TestP83TurnedBackItIsLayerSix(t *testing.T) {
	table := permute.New()
	all := append(short(), texts()...)
	for _, x := range broken {
		all = append(all, x.s, "\xC1\xCA\x46\x53"+x.s)
	}
	for b := range 256 {
		for c := range 256 {
			all = append(all, string([]byte{byte(b), byte(c)}))
		}
	}
	for _, s := range all {
		l, f := read(s)
		want, how := sixth(table.Back(s))
		if !slices.Equal(l, want) || f != how {
			t.Fatalf("% X: %X, %v, and by layer 6 %X, %v", s, l, f, want, how)
		}
		again, g := write(want)
		e := mod8.NewEncoder()
		_, ahead := e.Feed(want, math.MaxInt)
		if table.Back(again) != ahead || table.Text(ahead) != again || g != (api.Fail{}) {
			t.Fatalf("%X: % X, and by layer 6 % X", want, again, ahead)
		}
	}
}

// The scalars of 0 to 9F have one byte each, no two the same, and none of
// these stands in the bytes of a scalar above them.
func TestP83BytesForThemselves(t *testing.T) {
	var of [256]bool
	for c := range uint32(0xA0) {
		s, f := write([]uint32{c})
		if len(s) != 1 || s[0] != becomes[c] || f != (api.Fail{}) || of[s[0]] {
			t.Fatalf("%X: % X, %v", c, s, f)
		}
		of[s[0]] = true
		if l, f := read(s); !slices.Equal(l, []uint32{c}) || f != (api.Fail{}) {
			t.Errorf("% X: %X, %v", s, l, f)
		}
	}
	eachScalar(func(c uint32) {
		if c < 0xA0 {
			return
		}
		s, _ := write([]uint32{c})
		if len(s) < 2 || len(s) > 5 {
			t.Fatalf("%X: % X", c, s)
		}
		for i := range len(s) {
			if of[s[i]] {
				t.Fatalf("%X: % X, in which % X stands for itself", c, s, s[i])
			}
		}
	})
	for b := range 256 { // and behind a beginning such a byte is wrong
		if !of[b] {
			continue
		}
		for _, p := range []string{"\x80", "\xB8", "\xCA\x46", "\xDC\x57\x41", "\xEE\x42\x73\x73"} {
			if l, f := read(p + string([]byte{byte(b)})); len(l) != 0 || f != form(len(p)) {
				t.Fatalf("% X, then %X: %X, %v", p, b, l, f)
			}
		}
	}
}

func TestExamples(t *testing.T) {
	for _, x := range []struct {
		s string
		l []uint32
		f api.Fail
	}{
		{"\xC1", []uint32{0x41}, api.Fail{}},
		{"\x25", []uint32{0x85}, api.Fail{}},
		{"\xDD\x73\x66\x73", []uint32{0xFEFF}, api.Fail{}},
		{"\x80\x41", []uint32{0xA0}, api.Fail{}},
		{"\x41", nil, form(0)},
	} {
		if l, f := read(x.s); !slices.Equal(l, x.l) || f != x.f {
			t.Errorf("% X: %X, %v", x.s, l, f)
		}
		if x.f != (api.Fail{}) {
			continue
		}
		if s, f := write(x.l); s != x.s || f != (api.Fail{}) {
			t.Errorf("%X: % X, %v", x.l, s, f)
		}
	}
}
