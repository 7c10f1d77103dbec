package uni16_test

import (
	"fmt"
	"math"
	"slices"
	"strings"
	"testing"

	"pilcrow/api"
	"pilcrow/scalar"
	"pilcrow/uni16"
)

// scalars: how many there are.
const scalars = 0x110000 - 0x800

// eachOrder runs a test in both orders of bytes.
func eachOrder(t *testing.T, f func(t *testing.T, big bool)) {
	t.Run("big", func(t *testing.T) { f(t, true) })
	t.Run("little", func(t *testing.T) { f(t, false) })
}

// text: units' bytes, one unit behind the other.
func text(big bool, units ...int) string {
	var b []byte
	for _, u := range units {
		if big {
			b = append(b, byte(u/256), byte(u%256))
		} else {
			b = append(b, byte(u%256), byte(u/256))
		}
	}
	return string(b)
}

// spelt: what the chapter says that scalars' bytes are.
func spelt(big bool, l ...uint32) string {
	var units []int
	for _, c := range l {
		if c < 0x10000 {
			units = append(units, int(c))
		} else {
			left := int(c) - 0x10000
			units = append(units, 0xD800+left/1024, 0xDC00+left%1024)
		}
	}
	return text(big, units...)
}

// turned: a text's bytes, turned two by two; its length is even.
func turned(s string) string {
	var b []byte
	for i := 0; i < len(s); i += 2 {
		b = append(b, s[i+1], s[i])
	}
	return string(b)
}

// eachScalar calls f with all of them, the least one first.
func eachScalar(f func(c uint32)) {
	for c := uint32(0); c <= 0x10FFFF; c++ {
		if c < 0xD800 || c > 0xDFFF {
			f(c)
		}
	}
}

// edges: the scalars' ends, those beside the marks of two units, and such as
// have a mark's bytes in the other order.
var edges = []uint32{0, 0x41, 0xD8, 0xDC, 0xE9, 0x20AC, 0xD7FF, 0xE000, 0xFEFF, 0xFFFD, 0xFFFE, 0xFFFF, 0x10000, 0x103FF, 0x10400, 0x1F600, 0xFFFFF, 0x100000, 0x10FC00, 0x10FFFF}

// rooms: below 1, 1, few, more than enough.
var rooms = []int{math.MinInt, -1, 0, 1, 2, 3, 4, 5, 7, 1000, math.MaxInt}

// decoder is all that a decoder tells of itself.
type decoder struct {
	at   int
	fail api.Fail
	done bool
}

func decoderOf(d *uni16.Decoder) decoder { return decoder{d.At(), d.Fail(), d.Done()} }

// encoder is all that an encoder tells of itself.
type encoder struct {
	at   int
	fail api.Fail
	done bool
	kept int
}

func encoderOf(e *uni16.Encoder) encoder { return encoder{e.At(), e.Fail(), e.Done(), e.Kept()} }

// form, cut and wrong: what goes wrong, and where.
func form(at int) api.Fail  { return api.Fail{Err: api.ErrForm, At: at} }
func cut(at int) api.Fail   { return api.Fail{Err: api.ErrCut, At: at} }
func wrong(at int) api.Fail { return api.Fail{Err: api.ErrScalar, At: at} }

// read: what a whole text tells, and how it ends.
func read(big bool, s string) ([]uint32, api.Fail) {
	d := uni16.NewDecoder(big)
	_, l := d.Feed(s, math.MaxInt)
	d.End()
	return l, d.Fail()
}

// write: what is made of a whole list, and how it ends.
func write(big bool, l ...uint32) (string, api.Fail) {
	e := uni16.NewEncoder(big)
	_, s := e.Feed(l, math.MaxInt)
	e.End()
	return s, e.Fail()
}

func TestP41New(t *testing.T) {
	eachOrder(t, func(t *testing.T, big bool) {
		d := uni16.NewDecoder(big)
		if decoderOf(d) != (decoder{}) {
			t.Error(decoderOf(d))
		}
		if n, l := d.Feed("", 9); n != 0 || len(l) != 0 || decoderOf(d) != (decoder{}) {
			t.Error(n, l, decoderOf(d))
		}
		d.End()
		if decoderOf(d) != (decoder{done: true}) {
			t.Error("the empty text denotes no scalars:", decoderOf(d))
		}
	})
}

// known: scalars, and their bytes in both orders, written out.
var known = []struct {
	c           uint32
	big, little string
}{
	{0, "\x00\x00", "\x00\x00"}, {0x41, "\x00\x41", "\x41\x00"}, {0xE9, "\x00\xE9", "\xE9\x00"},
	{0xD8, "\x00\xD8", "\xD8\x00"}, {0xDF, "\x00\xDF", "\xDF\x00"},
	{0x20AC, "\x20\xAC", "\xAC\x20"}, {0xD7FF, "\xD7\xFF", "\xFF\xD7"},
	{0xE000, "\xE0\x00", "\x00\xE0"}, {0xFEFF, "\xFE\xFF", "\xFF\xFE"}, {0xFFFE, "\xFF\xFE", "\xFE\xFF"}, {0xFFFF, "\xFF\xFF", "\xFF\xFF"},
	{0x10000, "\xD8\x00\xDC\x00", "\x00\xD8\x00\xDC"}, {0x103FF, "\xD8\x00\xDF\xFF", "\x00\xD8\xFF\xDF"},
	{0x10400, "\xD8\x01\xDC\x00", "\x01\xD8\x00\xDC"}, {0x1F600, "\xD8\x3D\xDE\x00", "\x3D\xD8\x00\xDE"},
	{0x10FC00, "\xDB\xFF\xDC\x00", "\xFF\xDB\x00\xDC"}, {0x10FFFF, "\xDB\xFF\xDF\xFF", "\xFF\xDB\xFF\xDF"},
}

func TestP41Known(t *testing.T) {
	eachOrder(t, func(t *testing.T, big bool) {
		for _, x := range known {
			s := x.little
			if big {
				s = x.big
			}
			d := uni16.NewDecoder(big)
			if n, l := d.Feed(s, 1); n != len(s) || !slices.Equal(l, []uint32{x.c}) {
				t.Errorf("% X: %d, %X", s, n, l)
			}
			if got := decoderOf(d); got != (decoder{at: len(s)}) {
				t.Errorf("% X: %v", s, got)
			}
			d.End()
			if got := decoderOf(d); got != (decoder{at: len(s), done: true}) {
				t.Errorf("% X, and End: %v", s, got)
			}
		}
	})
}

// book is what the chapter's words give: which bytes are which scalar's, and
// all that such bytes begin with, but are not.
type book struct {
	scalar map[string]uint32
	begin  map[string]bool
}

func bookOf(big bool) book {
	k := book{map[string]uint32{}, map[string]bool{"": true}}
	eachScalar(func(c uint32) {
		s := spelt(big, c)
		k.scalar[s] = c
		for i := 1; i < len(s); i++ {
			k.begin[s[:i]] = true
		}
	})
	return k
}

// tail: the bytes that are tried behind a beginning: all, or, behind most of
// the many of three bytes, those at the ends of what may stand there. One first
// unit in 64 has all behind it, in either order.
func tail(p string) []byte {
	if len(p) == 3 && (p[0]+p[1])%64 != 63 {
		return []byte{0, 0x41, 0xD7, 0xD8, 0xDB, 0xDC, 0xDF, 0xE0, 0xFF}
	}
	var l []byte
	for b := range 256 {
		l = append(l, byte(b))
	}
	return l
}

// With every byte behind every beginning, the text is right so far just if it
// is such a beginning again, or a scalar's bytes.
func TestP41BytesBehindEveryBeginning(t *testing.T) {
	eachOrder(t, func(t *testing.T, big bool) {
		k := bookOf(big)
		for p := range k.begin {
			for _, b := range tail(p) {
				s := p + string([]byte{b})
				d := uni16.NewDecoder(big)
				n, l := d.Feed(s, 9)
				got := decoderOf(d)
				c, whole := k.scalar[s]
				switch {
				case k.begin[s]:
					if n != len(s) || len(l) != 0 || got != (decoder{at: n}) {
						t.Fatalf("% X, a beginning: %d, %X, %v", s, n, l, got)
					}
				case whole:
					if n != len(s) || !slices.Equal(l, []uint32{c}) || got != (decoder{at: n}) {
						t.Fatalf("% X: %d, %X, %v", s, n, l, got)
					}
				default:
					if n != len(p) || len(l) != 0 || got != (decoder{n, form(n), true}) {
						t.Fatalf("% X, no beginning: %d, %X, %v", s, n, l, got)
					}
				}
			}
		}
	})
}

func TestP41EveryScalar(t *testing.T) {
	eachOrder(t, func(t *testing.T, big bool) {
		d := uni16.NewDecoder(big)
		at, met := 0, 0
		eachScalar(func(c uint32) {
			s := spelt(big, c)
			at += len(s)
			met++
			if n, l := d.Feed(s, 2); n != len(s) || !slices.Equal(l, []uint32{c}) || decoderOf(d) != (decoder{at: at}) {
				t.Fatalf("%X, % X: %d, %X, %v", c, s, n, l, decoderOf(d))
			}
		})
		d.End()
		if met != scalars || decoderOf(d) != (decoder{at: at, done: true}) {
			t.Error(met, decoderOf(d))
		}
	})
}

// broken: units that no text has so, and at which byte they go wrong: that is
// the higher one of a unit.
var broken = []struct {
	units       []int
	big, little int
}{
	{[]int{0xDC00}, 0, 1}, {[]int{0xDDAB}, 0, 1}, {[]int{0xDFFF}, 0, 1}, {[]int{0xDC00, 0xD800}, 0, 1}, {[]int{0xDFFF, 0xDC00}, 0, 1},
	{[]int{0xD800, 0}, 2, 3}, {[]int{0xD800, 0x41}, 2, 3}, {[]int{0xDBFF, 0xD7FF}, 2, 3}, {[]int{0xDBFF, 0xD800}, 2, 3},
	{[]int{0xD800, 0xD800}, 2, 3}, {[]int{0xD800, 0xDBFF}, 2, 3}, {[]int{0xDBFF, 0xDBFF}, 2, 3}, {[]int{0xD83D, 0xE000}, 2, 3},
	{[]int{0xDBFF, 0xFFFF}, 2, 3}, {[]int{0xD800, 0x00DC}, 2, 3}, {[]int{0xD800, 0xD800, 0xDC00}, 2, 3},
	{[]int{0xD800, 0xDC00, 0xDC00}, 4, 5}, {[]int{0xDBFF, 0xDFFF, 0xDFFF}, 4, 5},
}

func TestP41Broken(t *testing.T) {
	eachOrder(t, func(t *testing.T, big bool) {
		for _, x := range broken {
			for _, ahead := range [][]uint32{{}, {0x41}, {0x10FFFF, 0, 0xFFFD, 0xD7FF}} {
				first := spelt(big, ahead...)
				at := len(first) + x.little
				if big {
					at = len(first) + x.big
				}
				told := slices.Clone(ahead)
				if at >= len(first)+4 {
					told = append(told, 0x10000+uint32(x.units[0]-0xD800)*1024+uint32(x.units[1]-0xDC00))
				}
				s := first + text(big, x.units...) + text(big, 0x42, 0xDC00)
				d := uni16.NewDecoder(big)
				n, l := d.Feed(s, 99)
				if n != at || !slices.Equal(l, told) || decoderOf(d) != (decoder{at, form(at), true}) {
					t.Errorf("% X: %d, %X, %v", s, n, l, decoderOf(d))
				}
			}
		}
	})
}

// A text that ends behind one, two or three bytes of a scalar is right so far,
// and denotes nothing.
func TestP41Cut(t *testing.T) {
	eachOrder(t, func(t *testing.T, big bool) {
		for _, c := range edges {
			s := spelt(big, c)
			for i := 1; i < len(s); i++ {
				for _, ahead := range [][]uint32{{}, {0x41}, {0xFFFF, 0x10000}} {
					whole := spelt(big, ahead...) + s[:i]
					d := uni16.NewDecoder(big)
					if n, l := d.Feed(whole, 99); n != len(whole) || !slices.Equal(l, ahead) || decoderOf(d) != (decoder{at: n}) {
						t.Errorf("% X: %d, %X, %v", whole, n, l, decoderOf(d))
					}
					d.End()
					if got := decoderOf(d); got != (decoder{len(whole), cut(len(whole)), true}) {
						t.Errorf("% X, and End: %v", whole, got)
					}
				}
			}
		}
	})
}

// facts: which scalar is complete with which byte of a text, and at which byte
// it goes wrong (its length, if it doesn't).
func (k book) facts(s string) (complete map[int]uint32, bad int) {
	complete = map[int]uint32{}
	from := 0
	for i := range len(s) {
		p := s[from : i+1]
		if k.begin[p] {
			continue
		}
		c, ok := k.scalar[p]
		if !ok {
			return complete, i
		}
		complete[i] = c
		from = i + 1
	}
	return complete, len(s)
}

// texts: right ones, such as are cut off, and such as go wrong.
func texts(big bool) []string {
	l := []string{
		"", "\x00", "\xD8", "\xDC", "\xDC\x00", "\x00\xDC", "\xD8\x00\x00", "\x00\xD8\x00", "\xFF\xFE\xFF",
		spelt(big, edges...),
		spelt(big, 0x41, 0x1F600, 0x42),
		spelt(big, 0x1F600, 0x1F601)[:7],
		spelt(big, 0x1F600, 0x1F601)[:6],
		spelt(big, 0x1F600, 0x1F601)[:5],
	}
	for _, units := range [][]int{
		{0x41}, {0x41, 0x42, 0x43}, {0xE9, 0xD83D}, {0xD83D, 0xDE00, 0xDC00, 0x41}, {0xD800, 0x41}, {0x41, 0xDBFF, 0xDBFF, 0xDC00},
		{0x20AC, 0xDFFF, 0x41}, {0xDBFF, 0xDFFF, 0xDBFF}, {0xD7FF, 0xE000, 0xD800, 0xE000},
	} {
		l = append(l, text(big, units...))
	}
	return l
}

// feedParts hands a text to a decoder in parts that end at the given places,
// each one so often till nothing is eaten of it any more, with the rooms in
// turn; and holds each answer against the facts. It tells all that was told.
func (k book) feedParts(t *testing.T, big bool, s string, ends []int, turn []int) []uint32 {
	complete, bad := k.facts(s)
	d := uni16.NewDecoder(big)
	var all []uint32
	at, calls := 0, 0
	for _, end := range append(ends, len(s)) {
		for more := true; more; calls++ {
			room := turn[calls%len(turn)]
			var want []uint32
			to, failed := at, false
			for to < end && len(want) < room && !failed {
				if failed = to == bad; !failed {
					if c, ok := complete[to]; ok {
						want = append(want, c)
					}
					to++
				}
			}
			failed = failed || d.Fail() != api.Fail{}
			n, l := d.Feed(s[at:end], room)
			if n != to-at || !slices.Equal(l, want) || d.At() != to {
				t.Fatalf("% X from %d to %d, room %d: %d, %X, at %d, not %d, %X", s, at, end, room, n, l, d.At(), to-at, want)
			}
			if got := decoderOf(d); failed && got != (decoder{bad, form(bad), true}) || !failed && got != (decoder{at: to}) {
				t.Fatalf("% X up to %d: %v", s, to, got)
			}
			all = append(all, l...)
			more = at < end && !failed && (n > 0 || room < 1)
			at = to
		}
	}
	k.endOf(t, d, s)
	return all
}

// endOf ends a decoder that a whole text was handed to.
func (k book) endOf(t *testing.T, d *uni16.Decoder, s string) {
	complete, bad := k.facts(s)
	want := decoder{bad, cut(bad), true}
	if _, ok := complete[bad-1]; ok || bad == 0 {
		want.fail = api.Fail{}
	}
	if bad < len(s) {
		want.fail = form(bad)
	}
	d.End()
	if decoderOf(d) != want {
		t.Fatalf("% X, and End: %v, not %v", s, decoderOf(d), want)
	}
}

func TestP41PartsAndRooms(t *testing.T) {
	turns := [][]int{{math.MaxInt}, {1}, {2}, {3}, {0, 1}, {-1, 2, 1}, {1, 5, math.MinInt}}
	eachOrder(t, func(t *testing.T, big bool) {
		k := bookOf(big)
		for _, s := range texts(big) {
			whole, _ := read(big, s)
			for i := range len(s) + 1 {
				for j := i; j <= len(s); j++ {
					for _, turn := range turns {
						if got := k.feedParts(t, big, s, []int{i, j}, turn); !slices.Equal(got, whole) {
							t.Fatalf("% X, cut at %d and %d: %X, not %X", s, i, j, got, whole)
						}
					}
				}
			}
		}
	})
}

// Bytes of a scalar that isn't complete take no room.
func TestP41RoomIsOfScalars(t *testing.T) {
	eachOrder(t, func(t *testing.T, big bool) {
		d := uni16.NewDecoder(big)
		s := spelt(big, 0x10FFFF, 0x41)
		for i := range 3 {
			if n, l := d.Feed(s[i:i+1], 1); n != 1 || len(l) != 0 || d.At() != i+1 {
				t.Error(i, n, l)
			}
		}
		if n, l := d.Feed(s[3:5], 1); n != 1 || !slices.Equal(l, []uint32{0x10FFFF}) {
			t.Error(n, l)
		}
		if n, l := d.Feed(s[4:5], 1); n != 1 || len(l) != 0 || d.At() != 5 {
			t.Error(n, l)
		}
		if n, l := d.Feed(s[5:], 1); n != 1 || !slices.Equal(l, []uint32{0x41}) || d.At() != 6 {
			t.Error(n, l)
		}
	})
}

// Without room no byte is looked at, not even a wrong one.
func TestP41NoRoom(t *testing.T) {
	for _, room := range []int{0, -1, math.MinInt} {
		eachOrder(t, func(t *testing.T, big bool) {
			for _, s := range texts(big) {
				d := uni16.NewDecoder(big)
				if n, l := d.Feed(s, room); n != 0 || len(l) != 0 || decoderOf(d) != (decoder{}) {
					t.Errorf("% X, room %d: %d, %X, %v", s, room, n, l, decoderOf(d))
				}
			}
		})
	}
	d := uni16.NewDecoder(true)
	if n, l := d.Feed("\x00\x41\xDC", 1); n != 2 || !slices.Equal(l, []uint32{0x41}) || decoderOf(d) != (decoder{at: 2}) {
		t.Error("behind the last scalar that there is room for:", n, l, decoderOf(d))
	}
	if n, l := d.Feed("\xDC", 0); n != 0 || len(l) != 0 || decoderOf(d) != (decoder{at: 2}) {
		t.Error("without room:", n, l, decoderOf(d))
	}
	if n, l := d.Feed("\xDC", 1); n != 0 || len(l) != 0 || decoderOf(d) != (decoder{2, form(2), true}) {
		t.Error("with room:", n, l, decoderOf(d))
	}
}

// stays: whatever is called, such a decoder is as it was, and tells nothing.
func stays(t *testing.T, d *uni16.Decoder, how string) {
	t.Helper()
	was := decoderOf(d)
	for range 2 {
		for _, s := range []string{"", "\x00", "\xDC", "\x00\xDC", "\x00\x41", "\x41\x00", "\xD8\x3D\xDE\x00", "\x3D\xD8\x00\xDE"} {
			for _, room := range rooms {
				if n, l := d.Feed(s, room); n != 0 || len(l) != 0 || decoderOf(d) != was {
					t.Errorf("%s, then % X: %d, %X, %v", how, s, n, l, decoderOf(d))
				}
			}
		}
		d.End()
		if decoderOf(d) != was {
			t.Errorf("%s, then End: %v, not %v", how, decoderOf(d), was)
		}
	}
}

func TestP41BehindAFailure(t *testing.T) {
	eachOrder(t, func(t *testing.T, big bool) {
		for _, x := range broken {
			at := x.little
			if big {
				at = x.big
			}
			d := uni16.NewDecoder(big)
			d.Feed(text(big, x.units...), 9)
			if decoderOf(d) != (decoder{at, form(at), true}) {
				t.Errorf("%X: %v", x.units, decoderOf(d))
			}
			stays(t, d, fmt.Sprintf("%X", x.units))
		}
		for n := range 3 {
			d := uni16.NewDecoder(big)
			d.Feed(spelt(big, 0x41, 0x1F600)[:n+3], 9)
			d.End()
			if decoderOf(d) != (decoder{n + 3, cut(n + 3), true}) {
				t.Error(decoderOf(d))
			}
			stays(t, d, "cut off")
		}
	})
}

func TestP41BehindAnEnd(t *testing.T) {
	eachOrder(t, func(t *testing.T, big bool) {
		for _, l := range [][]uint32{{}, {0x41}, {0x10FFFF}, {0x41, 0x1F600, 0xD7FF}} {
			s := spelt(big, l...)
			d := uni16.NewDecoder(big)
			d.Feed(s, 9)
			d.End()
			if decoderOf(d) != (decoder{at: len(s), done: true}) {
				t.Errorf("% X: %v", s, decoderOf(d))
			}
			stays(t, d, fmt.Sprintf("% X, ended", s))
		}
	})
}

// What one call told isn't touched by the next ones, nor they by what is done to it.
func TestP41WhatIsToldIsNewMemory(t *testing.T) {
	eachOrder(t, func(t *testing.T, big bool) {
		d := uni16.NewDecoder(big)
		_, first := d.Feed(spelt(big, 'A', 'B', 'C'), 2)
		was := slices.Clone(first)
		_, second := d.Feed(spelt(big, 'C', 'D', 'E'), 2)
		if !slices.Equal(first, was) || !slices.Equal(second, []uint32{'C', 'D'}) {
			t.Error(first, second)
		}
		first[0] = 7
		_ = append(first, 8, 9)
		second[1] = 6
		_ = append(second[:0], 5, 5, 5, 5)
		if _, third := d.Feed(spelt(big, 'E', 0x1F600), 2); !slices.Equal(third, []uint32{'E', 0x1F600}) {
			t.Error(third)
		}
		if first[1] != 'B' {
			t.Error(first)
		}
	})
}

func TestP41DecodersAreForThemselves(t *testing.T) {
	a, b := uni16.NewDecoder(true), uni16.NewDecoder(false)
	a.Feed("\xD8\x3D", 9)
	b.Feed("\xFF\xDB\xFF", 9)
	a.Feed("\xDE", 9)
	if n, l := b.Feed("\xDF", 9); n != 1 || !slices.Equal(l, []uint32{0x10FFFF}) {
		t.Error(n, l)
	}
	if n, l := a.Feed("\x00", 9); n != 1 || !slices.Equal(l, []uint32{0x1F600}) {
		t.Error(n, l)
	}
	b.Feed("\x00\xDC", 9)
	if decoderOf(a) != (decoder{at: 4}) || decoderOf(b) != (decoder{5, form(5), true}) {
		t.Error(decoderOf(a), decoderOf(b))
	}
}

func TestP42New(t *testing.T) {
	eachOrder(t, func(t *testing.T, big bool) {
		e := uni16.NewEncoder(big)
		if encoderOf(e) != (encoder{}) {
			t.Error(encoderOf(e))
		}
		if n, s := e.Feed(nil, 9); n != 0 || s != "" || encoderOf(e) != (encoder{}) {
			t.Error(n, s, encoderOf(e))
		}
		e.End()
		if encoderOf(e) != (encoder{done: true}) {
			t.Error(encoderOf(e))
		}
	})
}

func TestP42Known(t *testing.T) {
	for _, x := range known {
		if s, f := write(true, x.c); s != x.big || f != (api.Fail{}) {
			t.Errorf("%X, big: % X, %v", x.c, s, f)
		}
		if s, f := write(false, x.c); s != x.little || f != (api.Fail{}) {
			t.Errorf("%X, little: % X, %v", x.c, s, f)
		}
	}
}

// Every scalar's bytes are kept where there is no room, four of them at most.
func TestP42EveryScalar(t *testing.T) {
	eachOrder(t, func(t *testing.T, big bool) {
		e := uni16.NewEncoder(big)
		at := 0
		eachScalar(func(c uint32) {
			want := spelt(big, c)
			at++
			if n, s := e.Feed([]uint32{c}, 0); n != 1 || s != "" || encoderOf(e) != (encoder{at: at, kept: len(want)}) {
				t.Fatalf("%X: %d, % X, %v", c, n, s, encoderOf(e))
			}
			if e.Kept() > 4 {
				t.Fatalf("%X: %d bytes are kept", c, e.Kept())
			}
			if n, s := e.Feed(nil, 9); n != 0 || s != want || e.Kept() != 0 {
				t.Fatalf("%X: % X, not % X", c, s, want)
			}
		})
		if at != scalars {
			t.Error(at)
		}
	})
}

func TestP42NoScalars(t *testing.T) {
	l := []uint32{0x110000, 0x110001, 0x1FFFFF, 0x200000, 0x7FFFFFFF, 0x80000000, 0x80000041, math.MaxUint32}
	for c := uint32(0xD800); c <= 0xDFFF; c++ {
		l = append(l, c)
	}
	eachOrder(t, func(t *testing.T, big bool) {
		for _, c := range l {
			for _, ahead := range [][]uint32{{}, {0x41}, {0x10FFFF, 0xD7FF, 0xE000}} {
				e := uni16.NewEncoder(big)
				at := len(ahead)
				n, s := e.Feed(append(slices.Clone(ahead), c, 0x42, 0xD800), 99)
				if n != at || s != spelt(big, ahead...) || encoderOf(e) != (encoder{at, wrong(at), true, 0}) {
					t.Fatalf("%X behind %X: %d, % X, %v", c, ahead, n, s, encoderOf(e))
				}
			}
		}
	})
}

// feedScalars hands a list to an encoder in parts that end at the given places,
// each one so often till nothing of it is left, or it has failed, with the
// rooms in turn; and holds each answer against what the bytes must be.
func feedScalars(t *testing.T, big bool, l []uint32, ends []int, turn []int) string {
	bad := scalar.First(l...)
	if bad < 0 {
		bad = len(l)
	}
	e := uni16.NewEncoder(big)
	made, all, at, calls := "", "", 0, 0 // made: of what was eaten; all: what was told of it
	for _, end := range append(ends, len(l)) {
		for more := true; more; calls++ {
			room := turn[calls%len(turn)]
			free := max(room, 0)
			want := made[len(all):]
			to, failed := at, false
			for to < end && len(want) <= free && !failed {
				if failed = to == bad; !failed {
					made += spelt(big, l[to])
					want += spelt(big, l[to])
					to++
				}
			}
			failed = failed || e.Fail() != api.Fail{}
			want = want[:min(free, len(want))]
			n, s := e.Feed(l[at:end], room)
			all += s
			kept := len(made) - len(all)
			if n != to-at || s != want || e.At() != to || e.Kept() != kept || kept > 4 {
				t.Fatalf("%X from %d to %d, room %d: %d, % X, %v, not %d, % X", l, at, end, room, n, s, encoderOf(e), to-at, want)
			}
			if got := encoderOf(e); failed && got != (encoder{bad, wrong(bad), true, 0}) || !failed && got != (encoder{at: to, kept: kept}) {
				t.Fatalf("%X up to %d: %v", l, to, got)
			}
			at = to
			more = at < end && !failed
		}
	}
	was := e.Fail()
	e.End()
	if encoderOf(e) != (encoder{at, was, len(all) == len(made), len(made) - len(all)}) {
		t.Fatalf("%X, and End: %v", l, encoderOf(e))
	}
	n, s := e.Feed(l, 4)
	if n != 0 || all+s != made || encoderOf(e) != (encoder{at, was, true, 0}) {
		t.Fatalf("%X, behind End: %d, % X, %v", l, n, s, encoderOf(e))
	}
	return made
}

func TestP42PartsAndRooms(t *testing.T) {
	turns := [][]int{{math.MaxInt}, {1}, {2}, {3}, {4}, {5}, {0, 1}, {-1, 2, 1}, {1, 7, math.MinInt}}
	lists := [][]uint32{
		{}, {0x41}, {0x41, 0x42, 0x43}, {0x41, 0xE9, 0x20AC, 0x1F600}, {0x10FFFF, 0x10FFFF, 0}, {0xFFFF, 0x10000, 0xFFFF},
		{0xD800}, {0x41, 0xDFFF, 0x42}, {0x20AC, 0x1F600, 0x110000}, {0x10FFFF, math.MaxUint32, 0x41}, {0xD83D, 0xDE00},
		edges,
	}
	eachOrder(t, func(t *testing.T, big bool) {
		for _, l := range lists {
			whole, _ := write(big, l...)
			for i := range len(l) + 1 {
				for j := i; j <= len(l); j++ {
					for _, turn := range turns {
						if got := feedScalars(t, big, l, []int{i, j}, turn); got != whole {
							t.Fatalf("%X, cut at %d and %d: % X, not % X", l, i, j, got, whole)
						}
					}
				}
			}
		}
	})
}

// While it keeps bytes it looks at no number; while it keeps none it looks at
// one, room or not.
func TestP42WhatIsKeptComesFirst(t *testing.T) {
	eachOrder(t, func(t *testing.T, big bool) {
		smile, a := spelt(big, 0x1F600), spelt(big, 0x41)
		e := uni16.NewEncoder(big)
		if n, s := e.Feed([]uint32{0x1F600, 0xD800}, 3); n != 1 || s != smile[:3] || encoderOf(e) != (encoder{at: 1, kept: 1}) {
			t.Errorf("%d, % X, %v", n, s, encoderOf(e))
		}
		for _, room := range []int{0, -1, math.MinInt} {
			if n, s := e.Feed([]uint32{0xD800}, room); n != 0 || s != "" || encoderOf(e) != (encoder{at: 1, kept: 1}) {
				t.Errorf("room %d: %d, % X, %v", room, n, s, encoderOf(e))
			}
		}
		if n, s := e.Feed([]uint32{0x41, 0xD800}, 2); n != 1 || s != smile[3:]+a[:1] || encoderOf(e) != (encoder{at: 2, kept: 1}) {
			t.Errorf("%d, % X, %v", n, s, encoderOf(e))
		}
		if n, s := e.Feed([]uint32{0xD800}, 1); n != 0 || s != a[1:] || encoderOf(e) != (encoder{2, wrong(2), true, 0}) {
			t.Errorf("%d, % X, %v", n, s, encoderOf(e))
		}
		for _, room := range []int{0, -1, math.MinInt} {
			e := uni16.NewEncoder(big)
			if n, s := e.Feed([]uint32{0x41, 0x42}, room); n != 1 || s != "" || encoderOf(e) != (encoder{at: 1, kept: 2}) {
				t.Errorf("room %d: %d, % X, %v", room, n, s, encoderOf(e))
			}
			e = uni16.NewEncoder(big)
			if n, s := e.Feed([]uint32{0xDFFF}, room); n != 0 || s != "" || encoderOf(e) != (encoder{0, wrong(0), true, 0}) {
				t.Errorf("room %d: %d, % X, %v", room, n, s, encoderOf(e))
			}
		}
	})
}

// What is kept is told behind an end, too, by whatever rooms; nothing else is.
func TestP42BehindAnEnd(t *testing.T) {
	eachOrder(t, func(t *testing.T, big bool) {
		want := spelt(big, 0x10FFFD)
		for _, room := range rooms {
			e := uni16.NewEncoder(big)
			e.Feed([]uint32{0x10FFFD}, 0)
			e.End()
			told := 0
			for _, l := range [][]uint32{{0x41}, {0xD800}, nil} {
				if encoderOf(e) != (encoder{at: 1, kept: 4 - told, done: told == 4}) {
					t.Errorf("room %d: %v", room, encoderOf(e))
				}
				k := min(max(room, 0), 4-told)
				if n, s := e.Feed(l, room); n != 0 || s != want[told:told+k] {
					t.Errorf("room %d: %d, % X, %v", room, n, s, encoderOf(e))
				}
				told += k
				e.End()
			}
		}
	})
}

func TestP42BehindAFailure(t *testing.T) {
	eachOrder(t, func(t *testing.T, big bool) {
		e := uni16.NewEncoder(big)
		e.Feed([]uint32{0x1F600, 0xDC00}, 9)
		for range 2 {
			for _, l := range [][]uint32{nil, {0x41}, {0xD800}, {0x110000, 0x41}} {
				for _, room := range rooms {
					if n, s := e.Feed(l, room); n != 0 || s != "" || encoderOf(e) != (encoder{1, wrong(1), true, 0}) {
						t.Errorf("%X: %d, % X, %v", l, n, s, encoderOf(e))
					}
				}
			}
			e.End()
		}
	})
}

func TestP42WhatIsHandedInStays(t *testing.T) {
	eachOrder(t, func(t *testing.T, big bool) {
		for _, room := range rooms {
			full := []uint32{0x41, 0x1F600, 0x10FFFF, 0xD800, 7, 8, 9}
			was := slices.Clone(full)
			e := uni16.NewEncoder(big)
			e.Feed(full[:2], room)
			e.Feed(full[2:4], room)
			if !slices.Equal(full, was) {
				t.Errorf("room %d: %X", room, full)
			}
		}
		l := []uint32{0x1F600}
		e := uni16.NewEncoder(big)
		e.Feed(l, 1)
		l[0] = 0x41
		if _, s := e.Feed(nil, 9); s != spelt(big, 0x1F600)[1:] {
			t.Errorf("% X: what was eaten hangs on the list still", s)
		}
	})
}

func TestP42EncodersAreForThemselves(t *testing.T) {
	a, b := uni16.NewEncoder(true), uni16.NewEncoder(false)
	a.Feed([]uint32{0x1F600}, 1)
	b.Feed([]uint32{0x20AC}, 1)
	if _, s := a.Feed(nil, 9); s != "\x3D\xDE\x00" {
		t.Errorf("% X", s)
	}
	if _, s := b.Feed([]uint32{0xD800}, 9); s != "\x20" {
		t.Errorf("% X", s)
	}
	if encoderOf(a) != (encoder{at: 1}) || encoderOf(b) != (encoder{1, wrong(1), true, 0}) {
		t.Error(encoderOf(a), encoderOf(b))
	}
}

// carry writes a list and reads it again, by so many scalars or bytes and so
// much room a call. Each call gets on by a scalar or a byte: more calls than
// there are of both are none of a machine that ends.
func carry(big bool, l []uint32, part, room int) (string, []uint32) {
	e, d := uni16.NewEncoder(big), uni16.NewDecoder(big)
	var made strings.Builder
	most := 5*len(l) + 2
	for i := 0; i < most && !e.Done(); i++ {
		n, s := e.Feed(l[:min(part, len(l))], room)
		made.WriteString(s)
		if l = l[n:]; len(l) == 0 {
			e.End()
		}
	}
	var back []uint32
	s := made.String()
	for i := 0; i < most && !d.Done(); i++ {
		n, c := d.Feed(s[:min(part, len(s))], room)
		back = append(back, c...)
		if s = s[n:]; len(s) == 0 {
			d.End()
		}
	}
	return made.String(), back
}

func TestP43ThereAndBack(t *testing.T) {
	var all []uint32
	eachScalar(func(c uint32) { all = append(all, c) })
	back := slices.Clone(all)
	slices.Reverse(back)
	eachOrder(t, func(t *testing.T, big bool) {
		for _, x := range []struct{ part, room int }{{len(all) * 4, math.MaxInt}, {1, 1}, {3, 2}, {2, 5}, {1000, 7}} {
			s, got := carry(big, all, x.part, x.room)
			if s != spelt(big, all...) {
				t.Errorf("parts of %d, room %d: written otherwise", x.part, x.room)
			}
			if !slices.Equal(got, all) {
				t.Errorf("parts of %d, room %d: read otherwise", x.part, x.room)
			}
		}
		if _, got := carry(big, back, 100, 100); !slices.Equal(got, back) {
			t.Error("the greatest ones first: read otherwise")
		}
	})
}

// threes: every text of up to three units that lie at the ends of what units mean.
func threes(big bool) []string {
	units := []int{0, 0x41, 0xD8, 0xDC, 0xD7FF, 0xD800, 0xD83D, 0xDBFF, 0xDC00, 0xDE00, 0xDFFF, 0xE000, 0xFFFF}
	all := []string{""}
	for from := 0; len(all[from]) < 6; from++ {
		for _, u := range units {
			all = append(all, all[from]+text(big, u))
		}
	}
	return all
}

func TestP43ReadAndWrittenAgain(t *testing.T) {
	eachOrder(t, func(t *testing.T, big bool) {
		for _, s := range append(threes(big), texts(big)...) {
			l, f := read(big, s)
			again, _ := write(big, l...)
			if f == (api.Fail{}) && again != s {
				t.Errorf("% X: % X again", s, again)
			}
			if !strings.HasPrefix(s, again) || f != (api.Fail{}) && len(again) > f.At {
				t.Errorf("% X: % X is told ahead of %v", s, again, f)
			}
		}
	})
}

// Turned, a text denotes the same, or nothing again: what is told ahead of a
// failure is the same, and so are the failure and its unit.
func TestP43Turned(t *testing.T) {
	eachOrder(t, func(t *testing.T, big bool) {
		denoting := 0
		for _, s := range append(threes(big), spelt(big, edges...)) {
			l, f := read(big, s)
			turn, g := read(!big, turned(s))
			if !slices.Equal(l, turn) || f.Err != g.Err || f.At/2 != g.At/2 {
				t.Errorf("% X: %X, %v; turned: %X, %v", s, l, f, turn, g)
			}
			if f == (api.Fail{}) {
				denoting++
			}
		}
		if denoting < 500 {
			t.Error("only", denoting, "of the texts denote something")
		}
		var all []uint32
		eachScalar(func(c uint32) { all = append(all, c) })
		one, _ := write(big, all...)
		other, _ := write(!big, all...)
		if turned(one) != other {
			t.Error("the two orders' bytes aren't each other's, turned")
		}
	})
}

func TestExamples(t *testing.T) {
	for _, x := range []struct {
		big bool
		s   string
		l   []uint32
		f   api.Fail
	}{
		{true, "\x00\x41", []uint32{0x41}, api.Fail{}},
		{true, "\xD8\x3D\xDE\x00", []uint32{0x1F600}, api.Fail{}},
		{true, "\xDC", nil, form(0)},
		{true, "\xD8\x00\x00", nil, form(2)},
		{false, "\x00\xDC", nil, form(1)},
		{false, "\x00\xD8\x00", nil, cut(3)},
		{true, "\xFE\xFF", []uint32{api.Mark}, api.Fail{}},
		{false, "\xFF\xFE", []uint32{api.Mark}, api.Fail{}},
	} {
		if l, f := read(x.big, x.s); !slices.Equal(l, x.l) || f != x.f {
			t.Errorf("% X: %X, %v", x.s, l, f)
		}
	}
	if s, f := write(false, 0x41, 0xE9, 0x20AC); s != "\x41\x00\xE9\x00\xAC\x20" || f != (api.Fail{}) {
		t.Errorf("% X, %v", s, f)
	}
}
