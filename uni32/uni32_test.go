package uni32_test

import (
	"fmt"
	"math"
	"slices"
	"strings"
	"testing"

	"pilcrow/api"
	"pilcrow/scalar"
	"pilcrow/uni32"
)

// scalars: how many there are.
const scalars = 0x110000 - 0x800

// eachOrder runs a test in both orders of bytes.
func eachOrder(t *testing.T, f func(t *testing.T, big bool)) {
	t.Run("big", func(t *testing.T) { f(t, true) })
	t.Run("little", func(t *testing.T) { f(t, false) })
}

// spelt: what the chapter says that numbers' bytes are, scalars or not.
func spelt(big bool, l ...uint32) string {
	var b []byte
	for _, c := range l {
		four := []byte{byte(c / 0x1000000), byte(c / 0x10000 % 0x100), byte(c / 0x100 % 0x100), byte(c % 0x100)}
		if !big {
			slices.Reverse(four)
		}
		b = append(b, four...)
	}
	return string(b)
}

// isScalar: what layer 1's chapter says that a scalar is.
func isScalar(c uint32) bool { return c <= 0xD7FF || c >= 0xE000 && c <= 0x10FFFF }

// eachScalar calls f with all of them, the least one first.
func eachScalar(f func(c uint32)) {
	for c := uint32(0); c <= 0x10FFFF; c++ {
		if c < 0xD800 || c > 0xDFFF {
			f(c)
		}
	}
}

// edges: the scalars' ends, the planes' ends, and such as have a wrong number's
// bytes in another plane or in the other order.
var edges = []uint32{0, 0x41, 0xD8, 0xDF, 0xE9, 0x11, 0x1100, 0x20AC, 0xD7FF, 0xE000, 0xFEFF, 0xFFFD, 0xFFFF, 0x10000, 0x1D800, 0x1DFFF, 0x1F600, 0xFFFFF, 0x100000, 0x10D800, 0x10FFFE, 0x10FFFF}

// rooms: below 1, 1, few, more than enough.
var rooms = []int{math.MinInt, -1, 0, 1, 2, 3, 4, 5, 7, 1000, math.MaxInt}

// decoder is all that a decoder tells of itself.
type decoder struct {
	at   int
	fail api.Fail
	done bool
}

func decoderOf(d *uni32.Decoder) decoder { return decoder{d.At(), d.Fail(), d.Done()} }

// encoder is all that an encoder tells of itself.
type encoder struct {
	at   int
	fail api.Fail
	done bool
	kept int
}

func encoderOf(e *uni32.Encoder) encoder { return encoder{e.At(), e.Fail(), e.Done(), e.Kept()} }

// form, cut and wrong: what goes wrong, and where.
func form(at int) api.Fail  { return api.Fail{Err: api.ErrForm, At: at} }
func cut(at int) api.Fail   { return api.Fail{Err: api.ErrCut, At: at} }
func wrong(at int) api.Fail { return api.Fail{Err: api.ErrScalar, At: at} }

// read: what a whole text tells, and how it ends.
func read(big bool, s string) ([]uint32, api.Fail) {
	d := uni32.NewDecoder(big)
	_, l := d.Feed(s, math.MaxInt)
	d.End()
	return l, d.Fail()
}

// write: what is made of a whole list, and how it ends.
func write(big bool, l ...uint32) (string, api.Fail) {
	e := uni32.NewEncoder(big)
	_, s := e.Feed(l, math.MaxInt)
	e.End()
	return s, e.Fail()
}

func TestP51New(t *testing.T) {
	eachOrder(t, func(t *testing.T, big bool) {
		d := uni32.NewDecoder(big)
		if decoderOf(d) != (decoder{}) {
			t.Error(decoderOf(d))
		}
		if n, l := d.Feed("", 9); n != 0 || len(l) != 0 || decoderOf(d) != (decoder{}) {
			t.Error(n, l, decoderOf(d))
		}
		d.End()
		if decoderOf(d) != (decoder{done: true}) {
			t.Error("the empty text denotes no scalars:", decoderOf(d))
		}
	})
}

// known: scalars, and their bytes in both orders, written out.
var known = []struct {
	c           uint32
	big, little string
}{
	{0, "\x00\x00\x00\x00", "\x00\x00\x00\x00"}, {0x41, "\x00\x00\x00\x41", "\x41\x00\x00\x00"}, {0xE9, "\x00\x00\x00\xE9", "\xE9\x00\x00\x00"},
	{0xD8, "\x00\x00\x00\xD8", "\xD8\x00\x00\x00"}, {0x11, "\x00\x00\x00\x11", "\x11\x00\x00\x00"}, {0x1100, "\x00\x00\x11\x00", "\x00\x11\x00\x00"},
	{0x20AC, "\x00\x00\x20\xAC", "\xAC\x20\x00\x00"}, {0xD7FF, "\x00\x00\xD7\xFF", "\xFF\xD7\x00\x00"}, {0xE000, "\x00\x00\xE0\x00", "\x00\xE0\x00\x00"},
	{0xFEFF, "\x00\x00\xFE\xFF", "\xFF\xFE\x00\x00"}, {0xFFFF, "\x00\x00\xFF\xFF", "\xFF\xFF\x00\x00"}, {0x10000, "\x00\x01\x00\x00", "\x00\x00\x01\x00"},
	{0x1D800, "\x00\x01\xD8\x00", "\x00\xD8\x01\x00"}, {0x1DFFF, "\x00\x01\xDF\xFF", "\xFF\xDF\x01\x00"}, {0x1F600, "\x00\x01\xF6\x00", "\x00\xF6\x01\x00"},
	{0x100000, "\x00\x10\x00\x00", "\x00\x00\x10\x00"}, {0x10D800, "\x00\x10\xD8\x00", "\x00\xD8\x10\x00"}, {0x10FFFF, "\x00\x10\xFF\xFF", "\xFF\xFF\x10\x00"},
}

func TestP51Known(t *testing.T) {
	eachOrder(t, func(t *testing.T, big bool) {
		for _, x := range known {
			s := x.little
			if big {
				s = x.big
			}
			d := uni32.NewDecoder(big)
			if n, l := d.Feed(s, 1); n != 4 || !slices.Equal(l, []uint32{x.c}) {
				t.Errorf("% X: %d, %X", s, n, l)
			}
			if got := decoderOf(d); got != (decoder{at: 4}) {
				t.Errorf("% X: %v", s, got)
			}
			d.End()
			if got := decoderOf(d); got != (decoder{at: 4, done: true}) {
				t.Errorf("% X, and End: %v", s, got)
			}
		}
	})
}

// book is what the chapter's words give: all that some scalar's bytes begin
// with, by how many bytes it has, and by these as one number.
type book struct {
	big   bool
	begin [4][]bool
}

func bookOf(big bool) book {
	k := book{big: big}
	for n := range k.begin {
		k.begin[n] = make([]bool, 1<<(8*n))
	}
	eachScalar(func(c uint32) {
		s := spelt(big, c)
		for n := range k.begin {
			k.begin[n][asOne(s[:n])] = true
		}
	})
	return k
}

// asOne: bytes as one number, the first one highest.
func asOne(s string) int {
	n := 0
	for i := range len(s) {
		n = n*256 + int(s[i])
	}
	return n
}

// number: the number whose bytes four are.
func (k book) number(s string) uint32 {
	four := []byte(s)
	if !k.big {
		slices.Reverse(four)
	}
	return uint32(asOne(string(four)))
}

// eachBeginning calls f with all that a scalar's bytes begin with, but are not.
func (k book) eachBeginning(f func(p string)) {
	for n, right := range k.begin {
		for i, ok := range right {
			if ok {
				f(spelt(true, uint32(i))[4-n:])
			}
		}
	}
}

// tail: the bytes that are tried behind a beginning: all, or, behind most of
// the many of three bytes that the little order has, some at the edges. One in
// 61 has all behind it.
func (k book) tail(p string) []byte {
	if len(p) == 3 && !k.big && asOne(p)%61 != 0 {
		return []byte{0, 1, 0x10, 0xFF}
	}
	var l []byte
	for b := range 256 {
		l = append(l, byte(b))
	}
	return l
}

// With every byte behind every beginning, the text is right so far just if it
// is such a beginning again, or a scalar's bytes.
func TestP51BytesBehindEveryBeginning(t *testing.T) {
	eachOrder(t, func(t *testing.T, big bool) {
		k := bookOf(big)
		k.eachBeginning(func(p string) {
			for _, b := range k.tail(p) {
				s := p + string([]byte{b})
				d := uni32.NewDecoder(big)
				n, l := d.Feed(s, 9)
				got := decoderOf(d)
				switch {
				case len(s) < 4 && k.begin[len(s)][asOne(s)]:
					if n != len(s) || len(l) != 0 || got != (decoder{at: n}) {
						t.Fatalf("% X, a beginning: %d, %X, %v", s, n, l, got)
					}
				case len(s) == 4 && isScalar(k.number(s)):
					if n != 4 || !slices.Equal(l, []uint32{k.number(s)}) || got != (decoder{at: 4}) {
						t.Fatalf("% X: %d, %X, %v", s, n, l, got)
					}
				default:
					if n != len(p) || len(l) != 0 || got != (decoder{n, form(n), true}) {
						t.Fatalf("% X, no beginning: %d, %X, %v", s, n, l, got)
					}
				}
			}
		})
	})
}

func TestP51EveryScalar(t *testing.T) {
	eachOrder(t, func(t *testing.T, big bool) {
		d := uni32.NewDecoder(big)
		at, met := 0, 0
		eachScalar(func(c uint32) {
			s := spelt(big, c)
			at += 4
			met++
			if n, l := d.Feed(s, 2); n != 4 || !slices.Equal(l, []uint32{c}) || decoderOf(d) != (decoder{at: at}) {
				t.Fatalf("%X, % X: %d, %X, %v", c, s, n, l, decoderOf(d))
			}
		})
		d.End()
		if met != scalars || decoderOf(d) != (decoder{at: at, done: true}) {
			t.Error(met, decoderOf(d))
		}
	})
}

// broken: numbers that are no scalars, and which one of their bytes is the
// wrong one in which order.
var broken = []struct {
	number      uint32
	big, little int
}{
	{0xD800, 2, 2}, {0xD841, 2, 2}, {0xDBFF, 2, 2}, {0xDC00, 2, 2}, {0xDFFF, 2, 2},
	{0x110000, 1, 2}, {0x110041, 1, 2}, {0x11D800, 1, 2}, {0x11FFFF, 1, 2}, {0x200000, 1, 2}, {0x800000, 1, 2}, {0xD80000, 1, 2}, {0xFFFFFF, 1, 2},
	{0x1000000, 0, 3}, {0x1000041, 0, 3}, {0x1010000, 0, 3}, {0x101D800, 0, 3}, {0x110FFFF, 0, 3}, {0x10000000, 0, 3}, {0x41000000, 0, 3}, {0x80000000, 0, 3}, {0xFF10FFFF, 0, 3},
	{0x100D800, 0, 2}, {0xFF00DFFF, 0, 2}, {0x1110000, 0, 2}, {0x7FFFFFFF, 0, 2}, {0x80110000, 0, 2}, {math.MaxUint32, 0, 2},
}

func TestP51Broken(t *testing.T) {
	eachOrder(t, func(t *testing.T, big bool) {
		for _, x := range broken {
			for _, ahead := range [][]uint32{{}, {0x41}, {0x10FFFF, 0, 0x1D800, 0xD7FF}} {
				at := 4*len(ahead) + x.little
				if big {
					at = 4*len(ahead) + x.big
				}
				s := spelt(big, ahead...) + spelt(big, x.number, 0x42, 0xD800)
				d := uni32.NewDecoder(big)
				n, l := d.Feed(s, 99)
				if n != at || !slices.Equal(l, ahead) || decoderOf(d) != (decoder{at, form(at), true}) {
					t.Errorf("% X: %d, %X, %v", s, n, l, decoderOf(d))
				}
			}
		}
	})
}

// A text that ends behind one, two or three bytes of a scalar is right so far,
// and denotes nothing.
func TestP51Cut(t *testing.T) {
	eachOrder(t, func(t *testing.T, big bool) {
		for _, c := range edges {
			for i := 1; i < 4; i++ {
				for _, ahead := range [][]uint32{{}, {0x41}, {0xFFFF, 0x10000}} {
					whole := spelt(big, ahead...) + spelt(big, c)[:i]
					d := uni32.NewDecoder(big)
					if n, l := d.Feed(whole, 99); n != len(whole) || !slices.Equal(l, ahead) || decoderOf(d) != (decoder{at: n}) {
						t.Errorf("% X: %d, %X, %v", whole, n, l, decoderOf(d))
					}
					d.End()
					if got := decoderOf(d); got != (decoder{len(whole), cut(len(whole)), true}) {
						t.Errorf("% X, and End: %v", whole, got)
					}
				}
			}
		}
	})
}

// Two bytes of the little order that are wrong alone are right ahead of a
// plane: they end too early, they aren't wrong.
func TestP51CutAheadOfThePlane(t *testing.T) {
	for _, s := range []string{"\x00\xD8", "\xFF\xDB", "\x00\xDC", "\xFF\xDF"} {
		if l, f := read(false, s); len(l) != 0 || f != cut(2) {
			t.Errorf("% X: %X, %v", s, l, f)
		}
	}
}

// facts: which scalar is complete with which byte of a text, and at which byte
// it goes wrong (its length, if it doesn't).
func (k book) facts(s string) (complete map[int]uint32, bad int) {
	complete = map[int]uint32{}
	for i := range len(s) {
		p := s[i/4*4 : i+1]
		switch {
		case len(p) < 4 && k.begin[len(p)][asOne(p)]:
		case len(p) == 4 && isScalar(k.number(p)):
			complete[i] = k.number(p)
		default:
			return complete, i
		}
	}
	return complete, len(s)
}

// texts: right ones, such as are cut off, and such as go wrong.
func texts(big bool) []string {
	l := []string{
		"", "\x00", "\x01", "\x11", "\xFF", "\x00\x11", "\x00\xD8", "\x00\x00\xD8", "\x00\xD8\x00", "\x00\xD8\x01\x00", "\x00\x00\x11", "\x00\x10\xFF\xFF",
		spelt(big, edges...),
		spelt(big, 0x41, 0x1D800, 0x42),
		spelt(big, 0x1F600, 0x10FFFF)[:7],
		spelt(big, 0x1F600, 0x10FFFF)[:6],
		spelt(big, 0x1F600, 0x10FFFF)[:5],
	}
	for _, numbers := range [][]uint32{
		{0x41}, {0x41, 0x42, 0x43}, {0xE9, 0xD83D}, {0x1F600, 0xDC00, 0x41}, {0xD800, 0x41}, {0x41, 0x110000, 0x10FFFF},
		{0x20AC, 0xDFFF, 0x41}, {0x10FFFF, 0x1000000, 0x41}, {0xD7FF, 0xE000, math.MaxUint32},
	} {
		l = append(l, spelt(big, numbers...))
	}
	return l
}

// feedParts hands a text to a decoder in parts that end at the given places,
// each one so often till nothing is eaten of it any more, with the rooms in
// turn; and holds each answer against the facts. It tells all that was told.
func (k book) feedParts(t *testing.T, s string, ends []int, turn []int) []uint32 {
	complete, bad := k.facts(s)
	d := uni32.NewDecoder(k.big)
	var all []uint32
	at, calls := 0, 0
	for _, end := range append(ends, len(s)) {
		for more := true; more; calls++ {
			room := turn[calls%len(turn)]
			var want []uint32
			to, failed := at, false
			for to < end && len(want) < room && !failed {
				if failed = to == bad; !failed {
					if c, ok := complete[to]; ok {
						want = append(want, c)
					}
					to++
				}
			}
			failed = failed || d.Fail() != api.Fail{}
			n, l := d.Feed(s[at:end], room)
			if n != to-at || !slices.Equal(l, want) || d.At() != to {
				t.Fatalf("% X from %d to %d, room %d: %d, %X, at %d, not %d, %X", s, at, end, room, n, l, d.At(), to-at, want)
			}
			if got := decoderOf(d); failed && got != (decoder{bad, form(bad), true}) || !failed && got != (decoder{at: to}) {
				t.Fatalf("% X up to %d: %v", s, to, got)
			}
			all = append(all, l...)
			more = at < end && !failed && (n > 0 || room < 1)
			at = to
		}
	}
	k.endOf(t, d, s)
	return all
}

// endOf ends a decoder that a whole text was handed to.
func (k book) endOf(t *testing.T, d *uni32.Decoder, s string) {
	complete, bad := k.facts(s)
	want := decoder{bad, cut(bad), true}
	if _, ok := complete[bad-1]; ok || bad == 0 {
		want.fail = api.Fail{}
	}
	if bad < len(s) {
		want.fail = form(bad)
	}
	d.End()
	if decoderOf(d) != want {
		t.Fatalf("% X, and End: %v, not %v", s, decoderOf(d), want)
	}
}

func TestP51PartsAndRooms(t *testing.T) {
	turns := [][]int{{math.MaxInt}, {1}, {2}, {3}, {0, 1}, {-1, 2, 1}, {1, 5, math.MinInt}}
	eachOrder(t, func(t *testing.T, big bool) {
		k := bookOf(big)
		for _, s := range texts(big) {
			whole, _ := read(big, s)
			for i := range len(s) + 1 {
				for j := i; j <= len(s); j++ {
					for _, turn := range turns {
						if got := k.feedParts(t, s, []int{i, j}, turn); !slices.Equal(got, whole) {
							t.Fatalf("% X, cut at %d and %d: %X, not %X", s, i, j, got, whole)
						}
					}
				}
			}
		}
	})
}

// Bytes of a scalar that isn't complete take no room.
func TestP51RoomIsOfScalars(t *testing.T) {
	eachOrder(t, func(t *testing.T, big bool) {
		d := uni32.NewDecoder(big)
		s := spelt(big, 0x10FFFF, 0x41)
		for i := range 3 {
			if n, l := d.Feed(s[i:i+1], 1); n != 1 || len(l) != 0 || decoderOf(d) != (decoder{at: i + 1}) {
				t.Error(i, n, l, decoderOf(d))
			}
		}
		if n, l := d.Feed(s[3:], 1); n != 1 || !slices.Equal(l, []uint32{0x10FFFF}) {
			t.Error(n, l)
		}
		if n, l := d.Feed(s[4:7], 1); n != 3 || len(l) != 0 || d.At() != 7 {
			t.Error(n, l)
		}
		if n, l := d.Feed(s[7:], 1); n != 1 || !slices.Equal(l, []uint32{0x41}) || d.At() != 8 {
			t.Error(n, l)
		}
	})
}

// Without room no byte is looked at, not even a wrong one.
func TestP51NoRoom(t *testing.T) {
	eachOrder(t, func(t *testing.T, big bool) {
		for _, room := range []int{0, -1, math.MinInt} {
			for _, s := range texts(big) {
				d := uni32.NewDecoder(big)
				if n, l := d.Feed(s, room); n != 0 || len(l) != 0 || decoderOf(d) != (decoder{}) {
					t.Errorf("% X, room %d: %d, %X, %v", s, room, n, l, decoderOf(d))
				}
			}
		}
	})
	d := uni32.NewDecoder(true)
	if n, l := d.Feed("\x00\x00\x00\x41\x01", 1); n != 4 || !slices.Equal(l, []uint32{0x41}) || decoderOf(d) != (decoder{at: 4}) {
		t.Error("behind the last scalar that there is room for:", n, l, decoderOf(d))
	}
	if n, l := d.Feed("\x01", 0); n != 0 || len(l) != 0 || decoderOf(d) != (decoder{at: 4}) {
		t.Error("without room:", n, l, decoderOf(d))
	}
	if n, l := d.Feed("\x01", 1); n != 0 || len(l) != 0 || decoderOf(d) != (decoder{4, form(4), true}) {
		t.Error("with room:", n, l, decoderOf(d))
	}
}

// stays: whatever is called, such a decoder is as it was, and tells nothing.
func stays(t *testing.T, d *uni32.Decoder, how string) {
	t.Helper()
	was := decoderOf(d)
	for range 2 {
		for _, s := range []string{"", "\x00", "\x01", "\xFF", "\x00\x11", "\x00\x00\x00\x41", "\x41\x00\x00\x00", "\x00\x10\xFF\xFF", "\xFF\xFF\x10\x00"} {
			for _, room := range rooms {
				if n, l := d.Feed(s, room); n != 0 || len(l) != 0 || decoderOf(d) != was {
					t.Errorf("%s, then % X: %d, %X, %v", how, s, n, l, decoderOf(d))
				}
			}
		}
		d.End()
		if decoderOf(d) != was {
			t.Errorf("%s, then End: %v, not %v", how, decoderOf(d), was)
		}
	}
}

func TestP51BehindAFailure(t *testing.T) {
	eachOrder(t, func(t *testing.T, big bool) {
		for _, x := range broken {
			at := 4 + x.little
			if big {
				at = 4 + x.big
			}
			d := uni32.NewDecoder(big)
			d.Feed(spelt(big, 0x41, x.number), 9)
			if decoderOf(d) != (decoder{at, form(at), true}) {
				t.Errorf("%X: %v", x.number, decoderOf(d))
			}
			stays(t, d, fmt.Sprintf("%X", x.number))
		}
		for at := 5; at < 8; at++ {
			d := uni32.NewDecoder(big)
			d.Feed(spelt(big, 0x41, 0x1F600)[:at], 9)
			d.End()
			if decoderOf(d) != (decoder{at, cut(at), true}) {
				t.Error(decoderOf(d))
			}
			stays(t, d, "cut off")
		}
	})
}

func TestP51BehindAnEnd(t *testing.T) {
	eachOrder(t, func(t *testing.T, big bool) {
		for _, l := range [][]uint32{{}, {0x41}, {0x10FFFF}, {0x41, 0x1D800, 0xD7FF}} {
			s := spelt(big, l...)
			d := uni32.NewDecoder(big)
			d.Feed(s, 9)
			d.End()
			if decoderOf(d) != (decoder{at: len(s), done: true}) {
				t.Errorf("% X: %v", s, decoderOf(d))
			}
			stays(t, d, fmt.Sprintf("% X, ended", s))
		}
	})
}

// What one call told isn't touched by the next ones, nor they by what is done to it.
func TestP51WhatIsToldIsNewMemory(t *testing.T) {
	eachOrder(t, func(t *testing.T, big bool) {
		d := uni32.NewDecoder(big)
		_, first := d.Feed(spelt(big, 'A', 'B', 'C'), 2)
		was := slices.Clone(first)
		_, second := d.Feed(spelt(big, 'C', 'D', 'E'), 2)
		if !slices.Equal(first, was) || !slices.Equal(second, []uint32{'C', 'D'}) {
			t.Error(first, second)
		}
		first[0] = 7
		_ = append(first, 8, 9)
		second[1] = 6
		_ = append(second[:0], 5, 5, 5, 5)
		if _, third := d.Feed(spelt(big, 'E', 0x1F600), 2); !slices.Equal(third, []uint32{'E', 0x1F600}) {
			t.Error(third)
		}
		if first[1] != 'B' {
			t.Error(first)
		}
	})
}

func TestP51DecodersAreForThemselves(t *testing.T) {
	a, b := uni32.NewDecoder(true), uni32.NewDecoder(false)
	a.Feed("\x00\x01", 9)
	b.Feed("\xFF\xFF\x10", 9)
	a.Feed("\xD8", 9)
	if n, l := b.Feed("\x00", 9); n != 1 || !slices.Equal(l, []uint32{0x10FFFF}) {
		t.Error(n, l)
	}
	if n, l := a.Feed("\x00", 9); n != 1 || !slices.Equal(l, []uint32{0x1D800}) {
		t.Error(n, l)
	}
	b.Feed("\x00\xD8\x00", 9)
	if decoderOf(a) != (decoder{at: 4}) || decoderOf(b) != (decoder{6, form(6), true}) {
		t.Error(decoderOf(a), decoderOf(b))
	}
}

func TestP52New(t *testing.T) {
	eachOrder(t, func(t *testing.T, big bool) {
		e := uni32.NewEncoder(big)
		if encoderOf(e) != (encoder{}) {
			t.Error(encoderOf(e))
		}
		if n, s := e.Feed(nil, 9); n != 0 || s != "" || encoderOf(e) != (encoder{}) {
			t.Error(n, s, encoderOf(e))
		}
		e.End()
		if encoderOf(e) != (encoder{done: true}) {
			t.Error(encoderOf(e))
		}
	})
}

func TestP52Known(t *testing.T) {
	for _, x := range known {
		if s, f := write(true, x.c); s != x.big || f != (api.Fail{}) {
			t.Errorf("%X, big: % X, %v", x.c, s, f)
		}
		if s, f := write(false, x.c); s != x.little || f != (api.Fail{}) {
			t.Errorf("%X, little: % X, %v", x.c, s, f)
		}
	}
}

// Every scalar's four bytes are kept where there is no room, and no more.
func TestP52EveryScalar(t *testing.T) {
	eachOrder(t, func(t *testing.T, big bool) {
		e := uni32.NewEncoder(big)
		at := 0
		eachScalar(func(c uint32) {
			want := spelt(big, c)
			at++
			if n, s := e.Feed([]uint32{c, c}, 0); n != 1 || s != "" || encoderOf(e) != (encoder{at: at, kept: 4}) {
				t.Fatalf("%X: %d, % X, %v", c, n, s, encoderOf(e))
			}
			if n, s := e.Feed(nil, 9); n != 0 || s != want || encoderOf(e) != (encoder{at: at}) {
				t.Fatalf("%X: % X, not % X", c, s, want)
			}
		})
		if at != scalars {
			t.Error(at)
		}
	})
}

func TestP52NoScalars(t *testing.T) {
	l := []uint32{0x110000, 0x110001, 0x11D800, 0x1FFFFF, 0x200000, 0x1000000, 0x1000041, 0x7FFFFFFF, 0x80000000, 0x80000041, math.MaxUint32}
	for c := uint32(0xD800); c <= 0xDFFF; c++ {
		l = append(l, c)
	}
	eachOrder(t, func(t *testing.T, big bool) {
		for _, c := range l {
			for _, ahead := range [][]uint32{{}, {0x41}, {0x10FFFF, 0xD7FF, 0xE000}} {
				e := uni32.NewEncoder(big)
				at := len(ahead)
				n, s := e.Feed(append(slices.Clone(ahead), c, 0x42, 0xD800), 99)
				if n != at || s != spelt(big, ahead...) || encoderOf(e) != (encoder{at, wrong(at), true, 0}) {
					t.Fatalf("%X behind %X: %d, % X, %v", c, ahead, n, s, encoderOf(e))
				}
			}
		}
	})
}

// feedScalars hands a list to an encoder in parts that end at the given places,
// each one so often till nothing of it is left, or it has failed, with the
// rooms in turn; and holds each answer against what the bytes must be.
func feedScalars(t *testing.T, big bool, l []uint32, ends []int, turn []int) string {
	bad := scalar.First(l...)
	if bad < 0 {
		bad = len(l)
	}
	e := uni32.NewEncoder(big)
	made, all, at, calls := "", "", 0, 0 // made: of what was eaten; all: what was told of it
	for _, end := range append(ends, len(l)) {
		for more := true; more; calls++ {
			room := turn[calls%len(turn)]
			free := max(room, 0)
			want := made[len(all):]
			to, failed := at, false
			for to < end && len(want) <= free && !failed {
				if failed = to == bad; !failed {
					made += spelt(big, l[to])
					want += spelt(big, l[to])
					to++
				}
			}
			failed = failed || e.Fail() != api.Fail{}
			want = want[:min(free, len(want))]
			n, s := e.Feed(l[at:end], room)
			all += s
			kept := len(made) - len(all)
			if n != to-at || s != want || e.At() != to || e.Kept() != kept || kept > 4 {
				t.Fatalf("%X from %d to %d, room %d: %d, % X, %v, not %d, % X", l, at, end, room, n, s, encoderOf(e), to-at, want)
			}
			if got := encoderOf(e); failed && got != (encoder{bad, wrong(bad), true, 0}) || !failed && got != (encoder{at: to, kept: kept}) {
				t.Fatalf("%X up to %d: %v", l, to, got)
			}
			at = to
			more = at < end && !failed
		}
	}
	was := e.Fail()
	e.End()
	if encoderOf(e) != (encoder{at, was, len(all) == len(made), len(made) - len(all)}) {
		t.Fatalf("%X, and End: %v", l, encoderOf(e))
	}
	n, s := e.Feed(l, 4)
	if n != 0 || all+s != made || encoderOf(e) != (encoder{at, was, true, 0}) {
		t.Fatalf("%X, behind End: %d, % X, %v", l, n, s, encoderOf(e))
	}
	return made
}

func TestP52PartsAndRooms(t *testing.T) {
	turns := [][]int{{math.MaxInt}, {1}, {2}, {3}, {4}, {5}, {0, 1}, {-1, 2, 1}, {1, 7, math.MinInt}}
	lists := [][]uint32{
		{}, {0x41}, {0x41, 0x42, 0x43}, {0x41, 0xE9, 0x20AC, 0x1F600}, {0x10FFFF, 0x10FFFF, 0}, {0xFFFF, 0x10000, 0xFFFF},
		{0xD800}, {0x41, 0xDFFF, 0x42}, {0x20AC, 0x1F600, 0x110000}, {0x10FFFF, math.MaxUint32, 0x41}, {0xD83D, 0xDE00},
		edges,
	}
	eachOrder(t, func(t *testing.T, big bool) {
		for _, l := range lists {
			whole, _ := write(big, l...)
			for i := range len(l) + 1 {
				for j := i; j <= len(l); j++ {
					for _, turn := range turns {
						if got := feedScalars(t, big, l, []int{i, j}, turn); got != whole {
							t.Fatalf("%X, cut at %d and %d: % X, not % X", l, i, j, got, whole)
						}
					}
				}
			}
		}
	})
}

// While it keeps bytes it looks at no number; while it keeps none it looks at
// one, room or not.
func TestP52WhatIsKeptComesFirst(t *testing.T) {
	eachOrder(t, func(t *testing.T, big bool) {
		smile, a := spelt(big, 0x1F600), spelt(big, 0x41)
		e := uni32.NewEncoder(big)
		if n, s := e.Feed([]uint32{0x1F600, 0xD800}, 3); n != 1 || s != smile[:3] || encoderOf(e) != (encoder{at: 1, kept: 1}) {
			t.Errorf("%d, % X, %v", n, s, encoderOf(e))
		}
		for _, room := range []int{0, -1, math.MinInt} {
			if n, s := e.Feed([]uint32{0xD800}, room); n != 0 || s != "" || encoderOf(e) != (encoder{at: 1, kept: 1}) {
				t.Errorf("room %d: %d, % X, %v", room, n, s, encoderOf(e))
			}
		}
		if n, s := e.Feed([]uint32{0x41, 0xD800}, 2); n != 1 || s != smile[3:]+a[:1] || encoderOf(e) != (encoder{at: 2, kept: 3}) {
			t.Errorf("%d, % X, %v", n, s, encoderOf(e))
		}
		if n, s := e.Feed([]uint32{0xD800}, 3); n != 0 || s != a[1:] || encoderOf(e) != (encoder{2, wrong(2), true, 0}) {
			t.Errorf("%d, % X, %v", n, s, encoderOf(e))
		}
		for _, room := range []int{0, -1, math.MinInt} {
			e := uni32.NewEncoder(big)
			if n, s := e.Feed([]uint32{0x41, 0x42}, room); n != 1 || s != "" || encoderOf(e) != (encoder{at: 1, kept: 4}) {
				t.Errorf("room %d: %d, % X, %v", room, n, s, encoderOf(e))
			}
			e = uni32.NewEncoder(big)
			if n, s := e.Feed([]uint32{0xDFFF}, room); n != 0 || s != "" || encoderOf(e) != (encoder{0, wrong(0), true, 0}) {
				t.Errorf("room %d: %d, % X, %v", room, n, s, encoderOf(e))
			}
		}
	})
}

// Where the room is just full nothing is kept, so that one more is eaten.
func TestP52FullRoom(t *testing.T) {
	eachOrder(t, func(t *testing.T, big bool) {
		e := uni32.NewEncoder(big)
		if n, s := e.Feed([]uint32{0x41, 0x42, 0x43}, 4); n != 2 || s != spelt(big, 0x41) || encoderOf(e) != (encoder{at: 2, kept: 4}) {
			t.Errorf("%d, % X, %v", n, s, encoderOf(e))
		}
		if n, s := e.Feed([]uint32{0xD800}, 4); n != 0 || s != spelt(big, 0x42) || encoderOf(e) != (encoder{2, wrong(2), true, 0}) {
			t.Errorf("%d, % X, %v", n, s, encoderOf(e))
		}
	})
}

// What is kept is told behind an end, too, by whatever rooms; nothing else is.
func TestP52BehindAnEnd(t *testing.T) {
	eachOrder(t, func(t *testing.T, big bool) {
		want := spelt(big, 0x10FFFD)
		for _, room := range rooms {
			e := uni32.NewEncoder(big)
			e.Feed([]uint32{0x10FFFD}, 0)
			e.End()
			told := 0
			for _, l := range [][]uint32{{0x41}, {0xD800}, nil} {
				if encoderOf(e) != (encoder{at: 1, kept: 4 - told, done: told == 4}) {
					t.Errorf("room %d: %v", room, encoderOf(e))
				}
				k := min(max(room, 0), 4-told)
				if n, s := e.Feed(l, room); n != 0 || s != want[told:told+k] {
					t.Errorf("room %d: %d, % X, %v", room, n, s, encoderOf(e))
				}
				told += k
				e.End()
			}
		}
	})
}

func TestP52BehindAFailure(t *testing.T) {
	eachOrder(t, func(t *testing.T, big bool) {
		e := uni32.NewEncoder(big)
		e.Feed([]uint32{0x1F600, 0xDC00}, 9)
		for range 2 {
			for _, l := range [][]uint32{nil, {0x41}, {0xD800}, {0x110000, 0x41}} {
				for _, room := range rooms {
					if n, s := e.Feed(l, room); n != 0 || s != "" || encoderOf(e) != (encoder{1, wrong(1), true, 0}) {
						t.Errorf("%X: %d, % X, %v", l, n, s, encoderOf(e))
					}
				}
			}
			e.End()
		}
	})
}

func TestP52WhatIsHandedInStays(t *testing.T) {
	eachOrder(t, func(t *testing.T, big bool) {
		for _, room := range rooms {
			full := []uint32{0x41, 0x1F600, 0x10FFFF, 0xD800, 7, 8, 9}
			was := slices.Clone(full)
			e := uni32.NewEncoder(big)
			e.Feed(full[:2], room)
			e.Feed(full[2:4], room)
			if !slices.Equal(full, was) {
				t.Errorf("room %d: %X", room, full)
			}
		}
		l := []uint32{0x1F600}
		e := uni32.NewEncoder(big)
		e.Feed(l, 1)
		l[0] = 0x41
		if _, s := e.Feed(nil, 9); s != spelt(big, 0x1F600)[1:] {
			t.Errorf("% X: what was eaten hangs on the list still", s)
		}
	})
}

func TestP52EncodersAreForThemselves(t *testing.T) {
	a, b := uni32.NewEncoder(true), uni32.NewEncoder(false)
	a.Feed([]uint32{0x1F600}, 1)
	b.Feed([]uint32{0x20AC}, 1)
	if _, s := a.Feed(nil, 9); s != "\x01\xF6\x00" {
		t.Errorf("% X", s)
	}
	if _, s := b.Feed([]uint32{0xD800}, 9); s != "\x20\x00\x00" {
		t.Errorf("% X", s)
	}
	if encoderOf(a) != (encoder{at: 1}) || encoderOf(b) != (encoder{1, wrong(1), true, 0}) {
		t.Error(encoderOf(a), encoderOf(b))
	}
}

// carry writes a list and reads it again, by so many scalars or bytes and so
// much room a call. Each call gets on by a scalar or a byte: more calls than
// there are of both are none of a machine that ends.
func carry(big bool, l []uint32, part, room int) (string, []uint32) {
	e, d := uni32.NewEncoder(big), uni32.NewDecoder(big)
	var made strings.Builder
	most := 5*len(l) + 2
	for i := 0; i < most && !e.Done(); i++ {
		n, s := e.Feed(l[:min(part, len(l))], room)
		made.WriteString(s)
		if l = l[n:]; len(l) == 0 {
			e.End()
		}
	}
	var back []uint32
	s := made.String()
	for i := 0; i < most && !d.Done(); i++ {
		n, c := d.Feed(s[:min(part, len(s))], room)
		back = append(back, c...)
		if s = s[n:]; len(s) == 0 {
			d.End()
		}
	}
	return made.String(), back
}

func TestP53ThereAndBack(t *testing.T) {
	var all []uint32
	eachScalar(func(c uint32) { all = append(all, c) })
	back := slices.Clone(all)
	slices.Reverse(back)
	eachOrder(t, func(t *testing.T, big bool) {
		for _, x := range []struct{ part, room int }{{len(all) * 4, math.MaxInt}, {1, 1}, {3, 2}, {2, 5}, {1000, 7}} {
			s, got := carry(big, all, x.part, x.room)
			if s != spelt(big, all...) {
				t.Errorf("parts of %d, room %d: written otherwise", x.part, x.room)
			}
			if !slices.Equal(got, all) {
				t.Errorf("parts of %d, room %d: read otherwise", x.part, x.room)
			}
		}
		if _, got := carry(big, back, 100, 100); !slices.Equal(got, back) {
			t.Error("the greatest ones first: read otherwise")
		}
	})
}

// pairs: every text of up to two numbers that lie at the ends of what numbers
// mean, and all that these begin with.
func pairs(big bool) []string {
	numbers := []uint32{0, 0x41, 0xD7FF, 0xD800, 0xDFFF, 0xE000, 0xFFFF, 0x10000, 0x1D800, 0x10FFFF, 0x110000, 0x1000041, math.MaxUint32}
	var all []string
	for _, a := range numbers {
		for _, b := range numbers {
			s := spelt(big, a, b)
			for n := range len(s) + 1 {
				all = append(all, s[:n])
			}
		}
	}
	return all
}

func TestP53ReadAndWrittenAgain(t *testing.T) {
	eachOrder(t, func(t *testing.T, big bool) {
		denoting := 0
		for _, s := range append(pairs(big), texts(big)...) {
			l, f := read(big, s)
			again, _ := write(big, l...)
			if f == (api.Fail{}) {
				denoting++
				if again != s {
					t.Errorf("% X: % X again", s, again)
				}
			}
			if !strings.HasPrefix(s, again) || f != (api.Fail{}) && len(again) > f.At {
				t.Errorf("% X: % X is told ahead of %v", s, again, f)
			}
		}
		if denoting < 100 {
			t.Error("only", denoting, "of the texts denote something")
		}
	})
}

// justScalars: four bytes denote their number, if it is a scalar; else nothing.
func justScalars(t *testing.T, big bool, number uint32) {
	l, f := read(big, spelt(big, number))
	if isScalar(number) && (f != api.Fail{} || !slices.Equal(l, []uint32{number})) {
		t.Fatalf("%X, a scalar: %X, %v", number, l, f)
	}
	if !isScalar(number) && (f.Err != api.ErrForm || len(l) != 0) {
		t.Fatalf("%X, no scalar: %X, %v", number, l, f)
	}
}

func TestP53FourBytesAlone(t *testing.T) {
	ends := []uint32{0, 1, 0x0F, 0x10, 0x11, 0x41, 0x7F, 0x80, 0xD7, 0xD8, 0xDB, 0xDC, 0xDF, 0xE0, 0xFE, 0xFF}
	eachOrder(t, func(t *testing.T, big bool) {
		for number := range uint32(0x111000) {
			justScalars(t, big, number)
		}
		for i := range uint32(1 << 20) { // all over the numbers of 32 bits
			justScalars(t, big, i*4096+i%4096)
		}
		for _, a := range ends {
			for _, b := range ends {
				for _, c := range ends {
					for _, d := range ends {
						justScalars(t, big, a<<24|b<<16|c<<8|d)
					}
				}
			}
		}
	})
}

// By the big order texts compare as lists of scalars do.
func TestW4Order(t *testing.T) {
	last := "\x00"
	eachScalar(func(c uint32) {
		s, _ := write(true, c)
		if strings.Compare(last, s) != -1 {
			t.Fatalf("%X: % X isn't behind % X", c, s, last)
		}
		last = s
	})
	lists := [][]uint32{{}}
	for from := 0; len(lists[from]) < 2; from++ {
		for _, c := range edges {
			lists = append(lists, append(slices.Clone(lists[from]), c))
		}
	}
	for _, a := range lists {
		for _, b := range lists {
			x, _ := write(true, a...)
			y, _ := write(true, b...)
			if strings.Compare(x, y) != scalar.Order(a, b) {
				t.Fatalf("%X and %X: % X and % X", a, b, x, y)
			}
		}
	}
}

func TestExamples(t *testing.T) {
	for _, x := range []struct {
		big bool
		s   string
		l   []uint32
		f   api.Fail
	}{
		{true, "\x00\x11", nil, form(1)},
		{true, "\x00\x00\xD8", nil, form(2)},
		{false, "\x00\xD8\x00", nil, form(2)},
		{false, "\x00\xD8\x01\x00", []uint32{0x1D800}, api.Fail{}},
		{false, "\x00\x00\x11", nil, form(2)},
		{true, "\x00\x10\xFF\xFF", []uint32{api.Top}, api.Fail{}},
		{true, "\x00\x00\xFE\xFF", []uint32{api.Mark}, api.Fail{}},
		{false, "\xFF\xFE\x00\x00", []uint32{api.Mark}, api.Fail{}},
	} {
		if l, f := read(x.big, x.s); !slices.Equal(l, x.l) || f != x.f {
			t.Errorf("% X: %X, %v", x.s, l, f)
		}
	}
	if s, f := write(true, api.Mark); s != "\x00\x00\xFE\xFF" || f != (api.Fail{}) {
		t.Errorf("% X, %v", s, f)
	}
	if s, f := write(false, api.Mark); s != "\xFF\xFE\x00\x00" || f != (api.Fail{}) {
		t.Errorf("% X, %v", s, f)
	}
}
