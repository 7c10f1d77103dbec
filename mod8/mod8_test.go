package mod8_test

import (
	"fmt"
	"math"
	"slices"
	"strings"
	"testing"

	"pilcrow/api"
	"pilcrow/mod8"
	"pilcrow/scalar"
)

// scalars: how many there are.
const scalars = 0x110000 - 0x800

// spelt: a scalar's bytes, bit by bit as the chapter's table draws them.
func spelt(c uint32) string {
	drawn := "111110xx 101xxxxx 101xxxxx 101xxxxx 101xxxxx"
	switch {
	case c <= 0x9F:
		drawn = "xxxxxxxx"
	case c <= 0x3FF:
		drawn = "110xxxxx 101xxxxx"
	case c <= 0x3FFF:
		drawn = "1110xxxx 101xxxxx 101xxxxx"
	case c <= 0x3FFFF:
		drawn = "11110xxx 101xxxxx 101xxxxx 101xxxxx"
	}
	left := strings.Count(drawn, "x")
	out := []byte{0}
	for _, r := range drawn {
		if r == ' ' {
			out = append(out, 0)
			continue
		}
		bit := byte(r - '0')
		if r == 'x' {
			left--
			bit = byte(c>>left) & 1
		}
		out[len(out)-1] = out[len(out)-1]<<1 | bit
	}
	return string(out)
}

// speltAll: the bytes of a list, one scalar's behind the other's.
func speltAll(l []uint32) string {
	var b strings.Builder
	for _, c := range l {
		b.WriteString(spelt(c))
	}
	return b.String()
}

// eachScalar calls f with all of them, the least one first.
func eachScalar(f func(c uint32)) {
	for c := uint32(0); c <= 0x10FFFF; c++ {
		if c < 0xD800 || c > 0xDFFF {
			f(c)
		}
	}
}

// isScalar: what layer 1's chapter says that a scalar is.
func isScalar(c uint32) bool { return c <= 0xD7FF || c >= 0xE000 && c <= 0x10FFFF }

// edges: the ends of each row, and of what lies between.
var edges = []uint32{0, 0x41, 0x7F, 0x80, 0x9F, 0xA0, 0xE9, 0x3FF, 0x400, 0x20AC, 0x3FFF, 0x4000, 0xD7FF, 0xE000, 0xFEFF, 0xFFFF, 0x10000, 0x3FFFF, 0x40000, 0xFFFFF, 0x100000, 0x10FFFF}

// rooms: below 1, 1, few, more than enough.
var rooms = []int{math.MinInt, -1, 0, 1, 2, 3, 4, 5, 7, 1000, math.MaxInt}

// decoder is all that a decoder tells of itself.
type decoder struct {
	at   int
	fail api.Fail
	done bool
}

func decoderOf(d *mod8.Decoder) decoder { return decoder{d.At(), d.Fail(), d.Done()} }

// encoder is all that an encoder tells of itself.
type encoder struct {
	at   int
	fail api.Fail
	done bool
	kept int
}

func encoderOf(e *mod8.Encoder) encoder { return encoder{e.At(), e.Fail(), e.Done(), e.Kept()} }

// form, cut and wrong: what goes wrong, and where.
func form(at int) api.Fail  { return api.Fail{Err: api.ErrForm, At: at} }
func cut(at int) api.Fail   { return api.Fail{Err: api.ErrCut, At: at} }
func wrong(at int) api.Fail { return api.Fail{Err: api.ErrScalar, At: at} }

// read: what a whole text tells, and how it ends.
func read(s string) ([]uint32, api.Fail) {
	d := mod8.NewDecoder()
	_, l := d.Feed(s, math.MaxInt)
	d.End()
	return l, d.Fail()
}

// write: what is made of a whole list, and how it ends.
func write(l []uint32) (string, api.Fail) {
	e := mod8.NewEncoder()
	_, s := e.Feed(l, math.MaxInt)
	e.End()
	return s, e.Fail()
}

func TestP61New(t *testing.T) {
	d := mod8.NewDecoder()
	if decoderOf(d) != (decoder{}) {
		t.Error(decoderOf(d))
	}
	d.End()
	if decoderOf(d) != (decoder{done: true}) {
		t.Error("the empty text denotes no scalars:", decoderOf(d))
	}
}

// known: scalars, and their bytes, written out.
var known = []struct {
	c uint32
	s string
}{
	{0, "\x00"}, {0x41, "\x41"}, {0x7F, "\x7F"}, {0x80, "\x80"}, {0x85, "\x85"}, {0x9F, "\x9F"},
	{0xA0, "\xC5\xA0"}, {0xBF, "\xC5\xBF"}, {0xC0, "\xC6\xA0"}, {0xE9, "\xC7\xA9"}, {0x3FF, "\xDF\xBF"},
	{0x400, "\xE1\xA0\xA0"}, {0x7FF, "\xE1\xBF\xBF"}, {0x800, "\xE2\xA0\xA0"}, {0x20AC, "\xE8\xA5\xAC"}, {0x3FFF, "\xEF\xBF\xBF"},
	{0x4000, "\xF0\xB0\xA0\xA0"}, {0x7FFF, "\xF0\xBF\xBF\xBF"}, {0x8000, "\xF1\xA0\xA0\xA0"}, {0xD7FF, "\xF1\xB5\xBF\xBF"},
	{0xE000, "\xF1\xB8\xA0\xA0"}, {0xFEFF, "\xF1\xBF\xB7\xBF"}, {0xFFFF, "\xF1\xBF\xBF\xBF"},
	{0x10000, "\xF2\xA0\xA0\xA0"}, {0x1F600, "\xF3\xBD\xB0\xA0"}, {0x3FFFF, "\xF7\xBF\xBF\xBF"},
	{0x40000, "\xF8\xA8\xA0\xA0\xA0"}, {0xFFFFF, "\xF8\xBF\xBF\xBF\xBF"}, {0x100000, "\xF9\xA0\xA0\xA0\xA0"}, {0x10FFFF, "\xF9\xA1\xBF\xBF\xBF"},
}

func TestP61Known(t *testing.T) {
	for _, x := range known {
		d := mod8.NewDecoder()
		if n, l := d.Feed(x.s, 1); n != len(x.s) || !slices.Equal(l, []uint32{x.c}) {
			t.Errorf("% X: %d, %X", x.s, n, l)
		}
		if got := decoderOf(d); got != (decoder{at: len(x.s)}) {
			t.Errorf("% X: %v", x.s, got)
		}
		d.End()
		if got := decoderOf(d); got != (decoder{at: len(x.s), done: true}) {
			t.Errorf("% X, and End: %v", x.s, got)
		}
	}
}

// beginnings: all that scalars' bytes begin with, but are not.
func beginnings() map[string]bool {
	m := map[string]bool{"": true}
	eachScalar(func(c uint32) {
		s := spelt(c)
		for i := 1; i < len(s); i++ {
			m[s[:i]] = true
		}
	})
	return m
}

// With every byte behind every beginning, the text is right so far just if it
// is such a beginning again, or a scalar's bytes; and all scalars are met.
func TestP61EveryByteBehindEveryBeginning(t *testing.T) {
	begin := beginnings()
	met := 0
	for p := range begin {
		for b := range 256 {
			s := p + string([]byte{byte(b)})
			d := mod8.NewDecoder()
			n, l := d.Feed(s, 9)
			got := decoderOf(d)
			switch {
			case begin[s]:
				if n != len(s) || len(l) != 0 || got != (decoder{at: n}) {
					t.Fatalf("% X, a beginning: %d, %X, %v", s, n, l, got)
				}
			case len(l) == 1:
				met++
				if n != len(s) || !isScalar(l[0]) || spelt(l[0]) != s || got != (decoder{at: n}) {
					t.Fatalf("% X: %d, %X, %v", s, n, l, got)
				}
			default:
				if n != len(p) || len(l) != 0 || got != (decoder{n, form(n), true}) {
					t.Fatalf("% X, no beginning: %d, %X, %v", s, n, l, got)
				}
			}
		}
	}
	if met != scalars {
		t.Error(met, "scalars were read")
	}
}

// broken: texts that go wrong at a byte, and where.
var broken = []struct {
	s  string
	at int
}{
	{"\xA0", 0}, {"\xA0\xA0", 0}, {"\xAF", 0}, {"\xB6\xA0", 0}, {"\xBF", 0},
	{"\xC0", 0}, {"\xC0\xA0", 0}, {"\xC1\xBF", 0}, {"\xC4", 0}, {"\xC4\xBF", 0}, {"\xE0", 0}, {"\xE0\xA0\xA0", 0}, {"\xE0\xBF\xBF", 0},
	{"\xFA", 0}, {"\xFA\xA0\xA0\xA0\xA0", 0}, {"\xFB\xBF\xBF\xBF\xBF", 0}, {"\xFC\xA0\xA0\xA0\xA0\xA0", 0}, {"\xFD", 0}, {"\xFE\xFF", 0}, {"\xFF\xFE", 0},
	{"\xF0\xA0", 1}, {"\xF0\xAF", 1}, {"\xF0\xAF\xBF\xBF", 1}, {"\xF8\xA0", 1}, {"\xF8\xA7", 1}, {"\xF8\xA7\xBF\xBF\xBF", 1},
	{"\xF1\xB6", 1}, {"\xF1\xB6\xA0\xA0", 1}, {"\xF1\xB7", 1}, {"\xF1\xB7\xBF\xBF", 1}, {"\xF9\xA2", 1}, {"\xF9\xA2\xA0\xA0\xA0", 1}, {"\xF9\xBF", 1},
	{"\xC5\x9F", 1}, {"\xC5\xC0", 1}, {"\xC5\x20", 1}, {"\xDF\x80", 1}, {"\xC5\xC5\xA0", 1}, {"\xE1\x9F", 1}, {"\xE8\x28\xA5", 1}, {"\xEF\xE0", 1},
	{"\xF0\x90", 1}, {"\xF1\xD5", 1}, {"\xF7\xFF", 1}, {"\xF8\x88", 1}, {"\xF8\xC0", 1}, {"\xF9\x00", 1}, {"\xF9\x81", 1},
	{"\xE1\xA0\x9F", 2}, {"\xE8\xA5\xC0", 2}, {"\xE8\xA5\xE8\xA5\xAC", 2}, {"\xF0\xB0\x80", 2}, {"\xF1\xB5\xC0", 2}, {"\xF8\xA8\x20", 2}, {"\xF9\xA1\xFF", 2},
	{"\xF0\xB0\xA0\x9F", 3}, {"\xF1\xB8\xA0\xC0", 3}, {"\xF8\xA8\xA0\x85", 3}, {"\xF9\xA1\xBF\xDF", 3},
	{"\xF8\xA8\xA0\xA0\x9F", 4}, {"\xF9\xA1\xBF\xBF\xC0", 4}, {"\xF9\xA1\xBF\xBF\xF9\xA1\xBF\xBF\xBF", 4},
}

func TestP61Broken(t *testing.T) {
	for _, x := range broken {
		for _, ahead := range [][]uint32{{}, {0x41}, {0x10FFFF, 0, 0x9F, 0xA0, 0x3FFF}} {
			s := speltAll(ahead) + x.s + "B\xE8\xA5\xAC"
			at := len(speltAll(ahead)) + x.at
			d := mod8.NewDecoder()
			n, l := d.Feed(s, 99)
			if n != at || !slices.Equal(l, ahead) || decoderOf(d) != (decoder{at, form(at), true}) {
				t.Errorf("% X: %d, %X, %v", s, n, l, decoderOf(d))
			}
		}
	}
}

// Bytes that no scalar's begin with.
func TestP61NoFirstBytes(t *testing.T) {
	for _, x := range []struct{ from, to int }{{0xA0, 0xC4}, {0xE0, 0xE0}, {0xFA, 0xFF}} {
		for b := x.from; b <= x.to; b++ {
			s := "A" + string([]byte{byte(b)}) + "\xA0\xA0\xA0\xA0"
			d := mod8.NewDecoder()
			if n, l := d.Feed(s, 9); n != 1 || !slices.Equal(l, []uint32{0x41}) || decoderOf(d) != (decoder{1, form(1), true}) {
				t.Errorf("% X: %d, %X, %v", s, n, l, decoderOf(d))
			}
		}
	}
}

// A text that ends behind some of a scalar's bytes is right so far, and
// denotes nothing.
func TestP61Cut(t *testing.T) {
	begun := []string{"\xC5", "\xDF", "\xE1", "\xEF", "\xF0", "\xF0\xB0", "\xF1", "\xF1\xB5", "\xF1\xB8", "\xF7\xBF", "\xF8", "\xF8\xA8", "\xF9", "\xF9\xA0", "\xF9\xA1"}
	for _, c := range edges {
		for i := 1; i < len(spelt(c)); i++ {
			begun = append(begun, spelt(c)[:i])
		}
	}
	for _, s := range begun {
		for _, ahead := range [][]uint32{{}, {0x41}, {0xFFFF, 0x9F}, {0x10FFFF}} {
			whole := speltAll(ahead) + s
			d := mod8.NewDecoder()
			if n, l := d.Feed(whole, 99); n != len(whole) || !slices.Equal(l, ahead) || decoderOf(d) != (decoder{at: n}) {
				t.Errorf("% X: %d, %X, %v", whole, n, l, decoderOf(d))
			}
			d.End()
			if got := decoderOf(d); got != (decoder{len(whole), cut(len(whole)), true}) {
				t.Errorf("% X, and End: %v", whole, got)
			}
		}
	}
}

// facts: which scalar is complete with which byte of a text, and at which byte
// it goes wrong (its length, if it doesn't).
func facts(s string, begin map[string]bool) (complete map[int]uint32, bad int) {
	complete = map[int]uint32{}
	from := 0
	for i := range len(s) {
		p := s[from : i+1]
		if begin[p] {
			continue
		}
		c, ok := scalarOf(p)
		if !ok {
			return complete, i
		}
		complete[i] = c
		from = i + 1
	}
	return complete, len(s)
}

// scalarOf: the scalar whose bytes these are.
func scalarOf(s string) (uint32, bool) {
	c := uint32(s[0])
	if len(s) > 1 {
		c &= 0x7F >> len(s)
	}
	for _, b := range []byte(s[1:]) {
		c = c<<5 | uint32(b&0x1F)
	}
	return c, isScalar(c) && spelt(c) == s
}

// texts: right ones, such as are cut off, and such as go wrong.
func texts() []string {
	l := []string{
		"", "A", "ABC", "\x85", "\xC5\xA0", "A\xC7\xA9\xE8\xA5\xAC\x9F", "\xF3\xBD\xB0\xA0\xF9\xA1\xBF\xBF\xBF",
		"\xE8\xA5", "A\xF3\xBD\xB0", "\xC7\xA9\xC7", "B\xF8\xA8\xA0\xA0", "\xF1\xB5", "\xF0",
		"\xA0", "AB\xC7\x28", "\xE8\xA5\xAC\xE0\xA0A", "\xE8\xA5\xAC\xF9\xA2", "\xF1\xBF\xBF\xBD\xF1\xB6", "A\xF3\xBD\xB0\x41", "\x9F\xF9\xA1\xBF\xBF\xC0", "\xC5\xA0\xF0\xAF", "\x85\xFC", "\xDF\xBF\xC4",
	}
	return append(l, speltAll(edges))
}

// feedParts hands a text to a decoder in parts that end at the given places,
// each one so often till nothing is eaten of it any more, with the rooms in
// turn; and holds each answer against the facts. It tells all that was told.
func feedParts(t *testing.T, s string, ends []int, turn []int, begin map[string]bool) []uint32 {
	complete, bad := facts(s, begin)
	d := mod8.NewDecoder()
	var all []uint32
	at, calls := 0, 0
	for _, end := range append(ends, len(s)) {
		for more := true; more; calls++ {
			room := turn[calls%len(turn)]
			var want []uint32
			to, failed := at, false
			for to < end && len(want) < room && !failed {
				if failed = to == bad; !failed {
					if c, ok := complete[to]; ok {
						want = append(want, c)
					}
					to++
				}
			}
			failed = failed || d.Fail() != api.Fail{}
			n, l := d.Feed(s[at:end], room)
			if n != to-at || !slices.Equal(l, want) || d.At() != to {
				t.Fatalf("% X from %d to %d, room %d: %d, %X, at %d, not %d, %X", s, at, end, room, n, l, d.At(), to-at, want)
			}
			if got := decoderOf(d); failed && got != (decoder{bad, form(bad), true}) || !failed && got != (decoder{at: to}) {
				t.Fatalf("% X up to %d: %v", s, to, got)
			}
			all = append(all, l...)
			more = at < end && !failed && (n > 0 || room < 1)
			at = to
		}
	}
	endOf(t, d, s, begin)
	return all
}

// endOf ends a decoder that a whole text was handed to.
func endOf(t *testing.T, d *mod8.Decoder, s string, begin map[string]bool) {
	complete, bad := facts(s, begin)
	want := decoder{bad, cut(bad), true}
	if _, ok := complete[bad-1]; ok || bad == 0 {
		want.fail = api.Fail{}
	}
	if bad < len(s) {
		want.fail = form(bad)
	}
	d.End()
	if decoderOf(d) != want {
		t.Fatalf("% X, and End: %v, not %v", s, decoderOf(d), want)
	}
}

func TestP61PartsAndRooms(t *testing.T) {
	begin := beginnings()
	turns := [][]int{{math.MaxInt}, {1}, {2}, {3}, {0, 1}, {-1, 2, 1}, {1, 5, math.MinInt}}
	for _, s := range texts() {
		whole, _ := read(s)
		for i := range len(s) + 1 {
			for j := i; j <= len(s); j++ {
				for _, turn := range turns {
					if got := feedParts(t, s, []int{i, j}, turn, begin); !slices.Equal(got, whole) {
						t.Fatalf("% X, cut at %d and %d: %X, not %X", s, i, j, got, whole)
					}
				}
			}
		}
	}
}

// Bytes of a scalar that isn't complete take no room.
func TestP61RoomIsOfScalars(t *testing.T) {
	d := mod8.NewDecoder()
	for i, b := range []string{"\xF9", "\xA1", "\xBF", "\xBF"} {
		if n, l := d.Feed(b, 1); n != 1 || len(l) != 0 || decoderOf(d) != (decoder{at: i + 1}) {
			t.Error(i, n, l, decoderOf(d))
		}
	}
	if n, l := d.Feed("\xBF\xE8", 1); n != 1 || !slices.Equal(l, []uint32{0x10FFFF}) {
		t.Error(n, l)
	}
	if n, l := d.Feed("\xE8\xA5", 1); n != 2 || len(l) != 0 || d.At() != 7 {
		t.Error(n, l)
	}
	if n, l := d.Feed("\xAC\xA0", 1); n != 1 || !slices.Equal(l, []uint32{0x20AC}) || decoderOf(d) != (decoder{at: 8}) {
		t.Error(n, l, decoderOf(d))
	}
}

// Without room no byte is looked at, not even a wrong one.
func TestP61NoRoom(t *testing.T) {
	for _, s := range append(texts(), "\xFF\xFF") {
		for _, room := range []int{0, -1, math.MinInt} {
			d := mod8.NewDecoder()
			if n, l := d.Feed(s, room); n != 0 || len(l) != 0 || decoderOf(d) != (decoder{}) {
				t.Errorf("% X, room %d: %d, %X, %v", s, room, n, l, decoderOf(d))
			}
		}
	}
	d := mod8.NewDecoder()
	if n, l := d.Feed("A\xA0", 1); n != 1 || !slices.Equal(l, []uint32{0x41}) || decoderOf(d) != (decoder{at: 1}) {
		t.Error("behind the last scalar that there is room for:", n, l, decoderOf(d))
	}
	if n, l := d.Feed("\xA0", 0); n != 0 || len(l) != 0 || decoderOf(d) != (decoder{at: 1}) {
		t.Error("without room:", n, l, decoderOf(d))
	}
	if n, l := d.Feed("\xA0", 1); n != 0 || len(l) != 0 || decoderOf(d) != (decoder{1, form(1), true}) {
		t.Error("with room:", n, l, decoderOf(d))
	}
}

// stays: whatever is called, such a decoder is as it was, and tells nothing.
func stays(t *testing.T, d *mod8.Decoder, how string) {
	t.Helper()
	was := decoderOf(d)
	for range 2 {
		for _, s := range []string{"", "A", "\x85", "\xA0", "\xAC", "\xE8\xA5\xAC", "\xF9\xA1\xBF\xBF\xBF", "\xFF"} {
			for _, room := range rooms {
				if n, l := d.Feed(s, room); n != 0 || len(l) != 0 || decoderOf(d) != was {
					t.Errorf("%s, then % X: %d, %X, %v", how, s, n, l, decoderOf(d))
				}
			}
		}
		d.End()
		if decoderOf(d) != was {
			t.Errorf("%s, then End: %v, not %v", how, decoderOf(d), was)
		}
	}
}

func TestP61BehindAFailure(t *testing.T) {
	for _, x := range broken {
		d := mod8.NewDecoder()
		d.Feed("A"+x.s, 9)
		if decoderOf(d) != (decoder{x.at + 1, form(x.at + 1), true}) {
			t.Errorf("% X: %v", x.s, decoderOf(d))
		}
		stays(t, d, fmt.Sprintf("A% X", x.s))
	}
	for at := 2; at < 6; at++ {
		d := mod8.NewDecoder()
		d.Feed("A\xF8\xA8\xA0\xA0"[:at], 9)
		d.End()
		if decoderOf(d) != (decoder{at, cut(at), true}) {
			t.Error(decoderOf(d))
		}
		stays(t, d, "cut off")
	}
}

func TestP61BehindAnEnd(t *testing.T) {
	for _, s := range []string{"", "A", "\x9F", "\xE8\xA5\xAC", "\xF9\xA1\xBF\xBF\xBF\x00"} {
		d := mod8.NewDecoder()
		d.Feed(s, 9)
		d.End()
		if decoderOf(d) != (decoder{at: len(s), done: true}) {
			t.Errorf("% X: %v", s, decoderOf(d))
		}
		stays(t, d, fmt.Sprintf("% X, ended", s))
	}
}

// What one call told isn't touched by the next ones, nor they by what is done to it.
func TestP61WhatIsToldIsNewMemory(t *testing.T) {
	d := mod8.NewDecoder()
	_, first := d.Feed("ABCDE", 2)
	was := slices.Clone(first)
	_, second := d.Feed("CDE", 2)
	if !slices.Equal(first, was) || !slices.Equal(second, []uint32{'C', 'D'}) {
		t.Error(first, second)
	}
	first[0] = 7
	_ = append(first, 8, 9)
	second[1] = 6
	_ = append(second[:0], 5, 5, 5, 5)
	if _, third := d.Feed("E\xE8\xA5\xAC", 2); !slices.Equal(third, []uint32{'E', 0x20AC}) {
		t.Error(third)
	}
	if first[1] != 'B' {
		t.Error(first)
	}
}

func TestP61DecodersAreForThemselves(t *testing.T) {
	a, b := mod8.NewDecoder(), mod8.NewDecoder()
	a.Feed("\xE8", 9)
	b.Feed("\xF3\xBD", 9)
	a.Feed("\xA5", 9)
	if n, l := b.Feed("\xB0\xA0", 9); n != 2 || !slices.Equal(l, []uint32{0x1F600}) {
		t.Error(n, l)
	}
	if n, l := a.Feed("\xAC", 9); n != 1 || !slices.Equal(l, []uint32{0x20AC}) {
		t.Error(n, l)
	}
	b.Feed("\xFF", 9)
	if decoderOf(a) != (decoder{at: 3}) || decoderOf(b) != (decoder{4, form(4), true}) {
		t.Error(decoderOf(a), decoderOf(b))
	}
}

func TestP62New(t *testing.T) {
	e := mod8.NewEncoder()
	if encoderOf(e) != (encoder{}) {
		t.Error(encoderOf(e))
	}
	if n, s := e.Feed(nil, 9); n != 0 || s != "" || encoderOf(e) != (encoder{}) {
		t.Error(n, s, encoderOf(e))
	}
	e.End()
	if encoderOf(e) != (encoder{done: true}) {
		t.Error(encoderOf(e))
	}
}

func TestP62Known(t *testing.T) {
	for _, x := range known {
		if s, f := write([]uint32{x.c}); s != x.s || f != (api.Fail{}) {
			t.Errorf("%X: % X, %v", x.c, s, f)
		}
	}
}

// Every scalar's bytes are kept where there is no room, five of them at most.
func TestP62EveryScalar(t *testing.T) {
	e := mod8.NewEncoder()
	at := 0
	eachScalar(func(c uint32) {
		want := spelt(c)
		at++
		if n, s := e.Feed([]uint32{c, c}, 0); n != 1 || s != "" || encoderOf(e) != (encoder{at: at, kept: len(want)}) {
			t.Fatalf("%X: %d, % X, %v", c, n, s, encoderOf(e))
		}
		if e.Kept() > 5 {
			t.Fatalf("%X: %d bytes are kept", c, e.Kept())
		}
		if n, s := e.Feed(nil, 9); n != 0 || s != want || encoderOf(e) != (encoder{at: at}) {
			t.Fatalf("%X: % X, not % X", c, s, want)
		}
	})
	if at != scalars {
		t.Error(at)
	}
}

func TestP62NoScalars(t *testing.T) {
	l := []uint32{0x110000, 0x110001, 0x1FFFFF, 0x200000, 0x7FFFFFFF, 0x80000000, 0x80000041, math.MaxUint32}
	for c := uint32(0xD800); c <= 0xDFFF; c++ {
		l = append(l, c)
	}
	for _, c := range l {
		for _, ahead := range [][]uint32{{}, {0x41}, {0x10FFFF, 0xD7FF, 0xE000}} {
			e := mod8.NewEncoder()
			at := len(ahead)
			n, s := e.Feed(append(slices.Clone(ahead), c, 0x42, 0xD800), 99)
			if n != at || s != speltAll(ahead) || encoderOf(e) != (encoder{at, wrong(at), true, 0}) {
				t.Fatalf("%X behind %X: %d, % X, %v", c, ahead, n, s, encoderOf(e))
			}
		}
	}
}

// feedScalars hands a list to an encoder in parts that end at the given places,
// each one so often till nothing of it is left, or it has failed, with the
// rooms in turn; and holds each answer against what the bytes must be.
func feedScalars(t *testing.T, l []uint32, ends []int, turn []int) string {
	bad := scalar.First(l...)
	if bad < 0 {
		bad = len(l)
	}
	e := mod8.NewEncoder()
	made, all, at, calls := "", "", 0, 0 // made: of what was eaten; all: what was told of it
	for _, end := range append(ends, len(l)) {
		for more := true; more; calls++ {
			room := turn[calls%len(turn)]
			free := max(room, 0)
			want := made[len(all):]
			to, failed := at, false
			for to < end && len(want) <= free && !failed {
				if failed = to == bad; !failed {
					made += spelt(l[to])
					want += spelt(l[to])
					to++
				}
			}
			failed = failed || e.Fail() != api.Fail{}
			want = want[:min(free, len(want))]
			n, s := e.Feed(l[at:end], room)
			all += s
			kept := len(made) - len(all)
			if n != to-at || s != want || e.At() != to || e.Kept() != kept || kept > 5 {
				t.Fatalf("%X from %d to %d, room %d: %d, % X, %v, not %d, % X", l, at, end, room, n, s, encoderOf(e), to-at, want)
			}
			if got := encoderOf(e); failed && got != (encoder{bad, wrong(bad), true, 0}) || !failed && got != (encoder{at: to, kept: kept}) {
				t.Fatalf("%X up to %d: %v", l, to, got)
			}
			at = to
			more = at < end && !failed
		}
	}
	was := e.Fail()
	e.End()
	if encoderOf(e) != (encoder{at, was, len(all) == len(made), len(made) - len(all)}) {
		t.Fatalf("%X, and End: %v", l, encoderOf(e))
	}
	n, s := e.Feed(l, 5)
	if n != 0 || all+s != made || encoderOf(e) != (encoder{at, was, true, 0}) {
		t.Fatalf("%X, behind End: %d, % X, %v", l, n, s, encoderOf(e))
	}
	return made
}

func TestP62PartsAndRooms(t *testing.T) {
	turns := [][]int{{math.MaxInt}, {1}, {2}, {3}, {4}, {5}, {6}, {0, 1}, {-1, 2, 1}, {1, 7, math.MinInt}}
	lists := [][]uint32{
		{}, {0x41}, {0x41, 0x42, 0x43}, {0x41, 0xE9, 0x20AC, 0x1F600}, {0x10FFFF, 0x10FFFF, 0}, {0x9F, 0xA0, 0x9F},
		{0xD800}, {0x41, 0xDFFF, 0x42}, {0x20AC, 0x20AC, 0x110000}, {0x10FFFF, math.MaxUint32, 0x41},
		edges,
	}
	for _, l := range lists {
		whole, _ := write(l)
		for i := range len(l) + 1 {
			for j := i; j <= len(l); j++ {
				for _, turn := range turns {
					if got := feedScalars(t, l, []int{i, j}, turn); got != whole {
						t.Fatalf("%X, cut at %d and %d: % X, not % X", l, i, j, got, whole)
					}
				}
			}
		}
	}
}

// While it keeps bytes it looks at no number; while it keeps none it looks at
// one, room or not.
func TestP62WhatIsKeptComesFirst(t *testing.T) {
	e := mod8.NewEncoder()
	if n, s := e.Feed([]uint32{0x40000, 0xD800}, 4); n != 1 || s != "\xF8\xA8\xA0\xA0" || encoderOf(e) != (encoder{at: 1, kept: 1}) {
		t.Errorf("%d, % X, %v", n, s, encoderOf(e))
	}
	for _, room := range []int{0, -1, math.MinInt} {
		if n, s := e.Feed([]uint32{0xD800}, room); n != 0 || s != "" || encoderOf(e) != (encoder{at: 1, kept: 1}) {
			t.Errorf("room %d: %d, % X, %v", room, n, s, encoderOf(e))
		}
	}
	if n, s := e.Feed([]uint32{0x20AC, 0xD800}, 2); n != 1 || s != "\xA0\xE8" || encoderOf(e) != (encoder{at: 2, kept: 2}) {
		t.Errorf("%d, % X, %v", n, s, encoderOf(e))
	}
	if n, s := e.Feed([]uint32{0xD800}, 2); n != 0 || s != "\xA5\xAC" || encoderOf(e) != (encoder{2, wrong(2), true, 0}) {
		t.Errorf("%d, % X, %v", n, s, encoderOf(e))
	}
	for _, room := range []int{0, -1, math.MinInt} {
		e := mod8.NewEncoder()
		if n, s := e.Feed([]uint32{0x41, 0x42}, room); n != 1 || s != "" || encoderOf(e) != (encoder{at: 1, kept: 1}) {
			t.Errorf("room %d: %d, % X, %v", room, n, s, encoderOf(e))
		}
		e = mod8.NewEncoder()
		if n, s := e.Feed([]uint32{0xDFFF}, room); n != 0 || s != "" || encoderOf(e) != (encoder{0, wrong(0), true, 0}) {
			t.Errorf("room %d: %d, % X, %v", room, n, s, encoderOf(e))
		}
	}
}

// Where the room is just full nothing is kept, so that one more is eaten.
func TestP62FullRoom(t *testing.T) {
	e := mod8.NewEncoder()
	if n, s := e.Feed([]uint32{0x20AC, 0xA0, 0x43}, 3); n != 2 || s != "\xE8\xA5\xAC" || encoderOf(e) != (encoder{at: 2, kept: 2}) {
		t.Errorf("%d, % X, %v", n, s, encoderOf(e))
	}
	if n, s := e.Feed([]uint32{0xD800}, 2); n != 0 || s != "\xC5\xA0" || encoderOf(e) != (encoder{2, wrong(2), true, 0}) {
		t.Errorf("%d, % X, %v", n, s, encoderOf(e))
	}
}

// What is kept is told behind an end, too, by whatever rooms; nothing else is.
func TestP62BehindAnEnd(t *testing.T) {
	want := spelt(0x10FFFE)
	for _, room := range rooms {
		e := mod8.NewEncoder()
		e.Feed([]uint32{0x10FFFE}, 0)
		e.End()
		told := 0
		for _, l := range [][]uint32{{0x41}, {0xD800}, nil} {
			if encoderOf(e) != (encoder{at: 1, kept: 5 - told, done: told == 5}) {
				t.Errorf("room %d: %v", room, encoderOf(e))
			}
			k := min(max(room, 0), 5-told)
			if n, s := e.Feed(l, room); n != 0 || s != want[told:told+k] {
				t.Errorf("room %d: %d, % X, %v", room, n, s, encoderOf(e))
			}
			told += k
			e.End()
		}
	}
}

func TestP62BehindAFailure(t *testing.T) {
	e := mod8.NewEncoder()
	e.Feed([]uint32{0x20AC, 0x110000}, 9)
	for range 2 {
		for _, l := range [][]uint32{nil, {0x41}, {0xD800}, {0x110000, 0x41}} {
			for _, room := range rooms {
				if n, s := e.Feed(l, room); n != 0 || s != "" || encoderOf(e) != (encoder{1, wrong(1), true, 0}) {
					t.Errorf("%X: %d, % X, %v", l, n, s, encoderOf(e))
				}
			}
		}
		e.End()
	}
}

func TestP62WhatIsHandedInStays(t *testing.T) {
	for _, room := range rooms {
		full := []uint32{0x41, 0x20AC, 0x10FFFF, 0xD800, 7, 8, 9}
		was := slices.Clone(full)
		e := mod8.NewEncoder()
		e.Feed(full[:2], room)
		e.Feed(full[2:4], room)
		if !slices.Equal(full, was) {
			t.Errorf("room %d: %X", room, full)
		}
	}
	l := []uint32{0x20AC}
	e := mod8.NewEncoder()
	e.Feed(l, 0)
	l[0] = 0x41
	if _, s := e.Feed(nil, 9); s != "\xE8\xA5\xAC" {
		t.Errorf("% X: what was eaten hangs on the list still", s)
	}
}

func TestP62EncodersAreForThemselves(t *testing.T) {
	a, b := mod8.NewEncoder(), mod8.NewEncoder()
	a.Feed([]uint32{0x20AC}, 1)
	b.Feed([]uint32{0x1F600}, 1)
	if _, s := a.Feed(nil, 9); s != "\xA5\xAC" {
		t.Errorf("% X", s)
	}
	if _, s := b.Feed([]uint32{0xD800}, 9); s != "\xBD\xB0\xA0" {
		t.Errorf("% X", s)
	}
	if encoderOf(a) != (encoder{at: 1}) || encoderOf(b) != (encoder{1, wrong(1), true, 0}) {
		t.Error(encoderOf(a), encoderOf(b))
	}
}

// carry writes a list and reads it again, by so many scalars or bytes and so
// much room a call. Each call gets on by a scalar or a byte: more calls than
// there are of both are none of a machine that ends.
func carry(l []uint32, part, room int) (string, []uint32) {
	e, d := mod8.NewEncoder(), mod8.NewDecoder()
	var text strings.Builder
	most := 6*len(l) + 2
	for i := 0; i < most && !e.Done(); i++ {
		n, s := e.Feed(l[:min(part, len(l))], room)
		text.WriteString(s)
		if l = l[n:]; len(l) == 0 {
			e.End()
		}
	}
	var back []uint32
	s := text.String()
	for i := 0; i < most && !d.Done(); i++ {
		n, c := d.Feed(s[:min(part, len(s))], room)
		back = append(back, c...)
		if s = s[n:]; len(s) == 0 {
			d.End()
		}
	}
	return text.String(), back
}

func TestP63ThereAndBack(t *testing.T) {
	var all []uint32
	eachScalar(func(c uint32) { all = append(all, c) })
	for _, x := range []struct{ part, room int }{{len(all) * 5, math.MaxInt}, {1, 1}, {3, 2}, {2, 5}, {1000, 7}} {
		s, back := carry(all, x.part, x.room)
		if s != speltAll(all) {
			t.Errorf("parts of %d, room %d: written otherwise", x.part, x.room)
		}
		if !slices.Equal(back, all) {
			t.Errorf("parts of %d, room %d: read otherwise", x.part, x.room)
		}
	}
	slices.Reverse(all)
	if _, back := carry(all, 100, 100); !slices.Equal(back, all) {
		t.Error("the greatest ones first: read otherwise")
	}
}

// short: every text of up to four bytes that lie at the edges.
func short() []string {
	at := "\x00\x41\x9F\xA0\xA1\xA2\xA7\xA8\xAF\xB0\xB5\xB6\xB7\xB8\xBF\xC0\xC4\xC5\xDF\xE0\xE1\xEF\xF0\xF1\xF8\xF9\xFA"
	all := []string{""}
	for from := 0; len(all[from]) < 4; from++ {
		for i := range len(at) {
			all = append(all, all[from]+at[i:i+1])
		}
	}
	return all
}

// What a text tells are the scalars whose bytes stand ahead of where it goes
// wrong, and if it denotes something, it is just these.
func TestP63ReadAndWrittenAgain(t *testing.T) {
	begin := beginnings()
	denoting := 0
	for _, s := range append(short(), texts()...) {
		l, f := read(s)
		again, _ := write(l)
		_, bad := facts(s, begin)
		if f == (api.Fail{}) {
			denoting++
			if again != s {
				t.Fatalf("% X: % X again", s, again)
			}
		} else if f.At != bad || (f.Err == api.ErrForm) != (bad < len(s)) {
			t.Fatalf("% X: %v, not at %d", s, f, bad)
		}
		if !strings.HasPrefix(s, again) || len(again) > bad {
			t.Fatalf("% X: % X is told ahead of %d", s, again, bad)
		}
	}
	if denoting < 100 {
		t.Error("only", denoting, "of the texts denote something")
	}
}

// By this codec texts compare as lists of scalars do (W4).
func TestP63Order(t *testing.T) {
	last := ""
	eachScalar(func(c uint32) {
		s, _ := write([]uint32{c})
		if c > 0 && last >= s {
			t.Fatalf("%X: % X isn't greater than % X", c, s, last)
		}
		last = s
	})
	lists := [][]uint32{nil}
	for _, a := range edges {
		lists = append(lists, []uint32{a})
		for _, b := range edges {
			lists = append(lists, []uint32{a, b})
		}
	}
	for _, a := range lists {
		x, _ := write(a)
		for _, b := range lists {
			y, _ := write(b)
			if strings.Compare(x, y) != scalar.Order(a, b) {
				t.Fatalf("%X and %X: % X and % X", a, b, x, y)
			}
		}
	}
}

func TestExamples(t *testing.T) {
	for _, x := range []struct {
		s string
		l []uint32
		f api.Fail
	}{
		{"\x85", []uint32{0x85}, api.Fail{}},
		{"\xC5\xA0", []uint32{0xA0}, api.Fail{}},
		{"\xC4", nil, form(0)},
		{"\xE0", nil, form(0)},
		{"\xF0\xAF", nil, form(1)},
		{"\xF1\xB6", nil, form(1)},
		{"\xF9\xA2", nil, form(1)},
		{"\xFA", nil, form(0)},
	} {
		if l, f := read(x.s); !slices.Equal(l, x.l) || f != x.f {
			t.Errorf("% X: %X, %v", x.s, l, f)
		}
	}
	if s, f := write([]uint32{0x85, 0xA0}); s != "\x85\xC5\xA0" || f != (api.Fail{}) {
		t.Errorf("% X, %v", s, f)
	}
}
