package uni8_test

import (
	"fmt"
	"math"
	"slices"
	"strings"
	"testing"

	"pilcrow/api"
	"pilcrow/scalar"
	"pilcrow/uni8"
)

// scalars: how many there are.
const scalars = 0x110000 - 0x800

// spelt: a scalar's bytes, bit by bit as the chapter's table draws them. It
// leaves out Go's own UTF-8, so that this has something to be held against.
func spelt(c uint32) string {
	drawn := "11110xxx 10xxxxxx 10xxxxxx 10xxxxxx"
	switch {
	case c <= 0x7F:
		drawn = "0xxxxxxx"
	case c <= 0x7FF:
		drawn = "110xxxxx 10xxxxxx"
	case c <= 0xFFFF:
		drawn = "1110xxxx 10xxxxxx 10xxxxxx"
	}
	left := strings.Count(drawn, "x")
	out := []byte{0}
	for _, r := range drawn {
		if r == ' ' {
			out = append(out, 0)
			continue
		}
		bit := byte(r - '0')
		if r == 'x' {
			left--
			bit = byte(c>>left) & 1
		}
		out[len(out)-1] = out[len(out)-1]<<1 | bit
	}
	return string(out)
}

func speltAll(l []uint32) string {
	var b strings.Builder
	for _, c := range l {
		b.WriteString(spelt(c))
	}
	return b.String()
}

// eachScalar calls f with all of them, the least one first.
func eachScalar(f func(c uint32)) {
	for c := uint32(0); c <= 0x10FFFF; c++ {
		if c < 0xD800 || c > 0xDFFF {
			f(c)
		}
	}
}

// edges: the ends of each row, and of what lies between.
var edges = []uint32{0, 0x41, 0x7F, 0x80, 0x7FF, 0x800, 0x20AC, 0xD7FF, 0xE000, 0xFFFD, 0xFFFE, 0xFFFF, 0x10000, 0x1F600, 0xFFFFF, 0x100000, 0x10FFFF}

// rooms: below 1, 1, few, more than enough.
var rooms = []int{math.MinInt, -1, 0, 1, 2, 3, 4, 5, 7, 1000, math.MaxInt}

// decoder is all that a decoder tells of itself.
type decoder struct {
	at   int
	fail api.Fail
	done bool
}

func decoderOf(d *uni8.Decoder) decoder { return decoder{d.At(), d.Fail(), d.Done()} }

// encoder is all that an encoder tells of itself.
type encoder struct {
	at   int
	fail api.Fail
	done bool
	kept int
}

func encoderOf(e *uni8.Encoder) encoder { return encoder{e.At(), e.Fail(), e.Done(), e.Kept()} }

// form, cut and wrong: what goes wrong, and where.
func form(at int) api.Fail  { return api.Fail{Err: api.ErrForm, At: at} }
func cut(at int) api.Fail   { return api.Fail{Err: api.ErrCut, At: at} }
func wrong(at int) api.Fail { return api.Fail{Err: api.ErrScalar, At: at} }

// read: what a whole text tells, and how it ends.
func read(s string) ([]uint32, api.Fail) {
	d := uni8.NewDecoder()
	_, l := d.Feed(s, math.MaxInt)
	d.End()
	return l, d.Fail()
}

// write: what is made of a whole list, and how it ends.
func write(l []uint32) (string, api.Fail) {
	e := uni8.NewEncoder()
	_, s := e.Feed(l, math.MaxInt)
	e.End()
	return s, e.Fail()
}

func TestP31New(t *testing.T) {
	d := uni8.NewDecoder()
	if decoderOf(d) != (decoder{}) {
		t.Error(decoderOf(d))
	}
	d.End()
	if decoderOf(d) != (decoder{done: true}) {
		t.Error("the empty text denotes no scalars:", decoderOf(d))
	}
}

func TestP31EndsOfRows(t *testing.T) {
	for _, x := range []struct {
		s string
		c uint32
	}{
		{"\x00", 0}, {"\x41", 0x41}, {"\x7F", 0x7F},
		{"\xC2\x80", 0x80}, {"\xC3\xA9", 0xE9}, {"\xDF\xBF", 0x7FF},
		{"\xE0\xA0\x80", 0x800}, {"\xE2\x82\xAC", 0x20AC}, {"\xED\x9F\xBF", 0xD7FF},
		{"\xEE\x80\x80", 0xE000}, {"\xEF\xBB\xBF", 0xFEFF}, {"\xEF\xBF\xBD", 0xFFFD}, {"\xEF\xBF\xBF", 0xFFFF},
		{"\xF0\x90\x80\x80", 0x10000}, {"\xF0\x9F\x98\x80", 0x1F600}, {"\xF3\xBF\xBF\xBF", 0xFFFFF},
		{"\xF4\x80\x80\x80", 0x100000}, {"\xF4\x8F\xBF\xBF", 0x10FFFF},
	} {
		d := uni8.NewDecoder()
		if n, l := d.Feed(x.s, 1); n != len(x.s) || !slices.Equal(l, []uint32{x.c}) {
			t.Errorf("% X: %d, %X", x.s, n, l)
		}
		if got := decoderOf(d); got != (decoder{at: len(x.s)}) {
			t.Errorf("% X: %v", x.s, got)
		}
		d.End()
		if got := decoderOf(d); got != (decoder{at: len(x.s), done: true}) {
			t.Errorf("% X, and End: %v", x.s, got)
		}
	}
}

// beginnings: all that scalars' bytes begin with, but are not.
func beginnings() map[string]bool {
	m := map[string]bool{"": true}
	eachScalar(func(c uint32) {
		s := spelt(c)
		for i := 1; i < len(s); i++ {
			m[s[:i]] = true
		}
	})
	return m
}

// With every byte behind every beginning, the text is right so far just if it
// is such a beginning again, or a scalar's bytes; and all scalars are met.
func TestP31EveryByteBehindEveryBeginning(t *testing.T) {
	begin := beginnings()
	met := 0
	for p := range begin {
		for b := range 256 {
			s := p + string([]byte{byte(b)})
			d := uni8.NewDecoder()
			n, l := d.Feed(s, 9)
			got := decoderOf(d)
			switch {
			case begin[s]:
				if n != len(s) || len(l) != 0 || got != (decoder{at: n}) {
					t.Fatalf("% X, a beginning: %d, %X, %v", s, n, l, got)
				}
			case len(l) == 1:
				met++
				if n != len(s) || !scalar.Is(l[0]) || spelt(l[0]) != s || got != (decoder{at: n}) {
					t.Fatalf("% X: %d, %X, %v", s, n, l, got)
				}
			default:
				if n != len(p) || len(l) != 0 || got != (decoder{n, form(n), true}) {
					t.Fatalf("% X, no beginning: %d, %X, %v", s, n, l, got)
				}
			}
		}
	}
	if met != scalars {
		t.Error(met, "scalars were read")
	}
}

// broken: texts that go wrong at a byte, and where.
var broken = []struct {
	s  string
	at int
}{
	{"\x80", 0}, {"\xBF", 0}, {"\xC0", 0}, {"\xC0\x80", 0}, {"\xC1\xBF", 0},
	{"\xF5", 0}, {"\xF5\x80\x80\x80", 0}, {"\xF7", 0}, {"\xF8\x88\x80\x80\x80", 0}, {"\xFC", 0}, {"\xFE\xFF", 0}, {"\xFF", 0},
	{"\xE0\x80", 1}, {"\xE0\x9F\xBF", 1}, {"\xED\xA0", 1}, {"\xED\xA0\x80", 1}, {"\xED\xBF\xBF", 1},
	{"\xF0\x80", 1}, {"\xF0\x8F\xBF\xBF", 1}, {"\xF4\x90", 1}, {"\xF4\x90\x80\x80", 1}, {"\xF4\xBF", 1},
	{"\xC3\x28", 1}, {"\xC3\xC3", 1}, {"\xC2\x7F", 1}, {"\xDF\xC0", 1}, {"\xE2\x28\xA1", 1}, {"\xE2\x00", 1},
	{"\xE2\x82\x28", 2}, {"\xE2\x82\xE2\x82\xAC", 2}, {"\xE0\xA0\x7F", 2}, {"\xF0\x9F\x41", 2}, {"\xF0\x90\xC0", 2},
	{"\xF0\x9F\x98\x28", 3}, {"\xF4\x8F\xBF\xC0", 3}, {"\xF0\x9F\x98\xF0\x9F\x98\x80", 3},
}

func TestP31Broken(t *testing.T) {
	for _, x := range broken {
		for _, ahead := range [][]uint32{{}, {0x41}, {0x10FFFF, 0, 0xFFFD, 0x7FF}} {
			s := speltAll(ahead) + x.s + "B\xE2\x82\xAC"
			at := len(speltAll(ahead)) + x.at
			d := uni8.NewDecoder()
			n, l := d.Feed(s, 99)
			if n != at || !slices.Equal(l, ahead) || decoderOf(d) != (decoder{at, form(at), true}) {
				t.Errorf("% X: %d, %X, %v", s, n, l, decoderOf(d))
			}
		}
	}
}

func TestP31Cut(t *testing.T) {
	for _, c := range edges {
		s := spelt(c)
		for i := 1; i < len(s); i++ {
			for _, ahead := range [][]uint32{{}, {0x41}, {0xFFFF, 0x80}} {
				whole := speltAll(ahead) + s[:i]
				d := uni8.NewDecoder()
				if n, l := d.Feed(whole, 99); n != len(whole) || !slices.Equal(l, ahead) || decoderOf(d) != (decoder{at: n}) {
					t.Errorf("% X: %d, %X, %v", whole, n, l, decoderOf(d))
				}
				d.End()
				if got := decoderOf(d); got != (decoder{len(whole), cut(len(whole)), true}) {
					t.Errorf("% X, and End: %v", whole, got)
				}
			}
		}
	}
}

// facts: which scalar is complete with which byte of a text, and at which byte
// it goes wrong (its length, if it doesn't).
func facts(s string, begin map[string]bool) (complete map[int]uint32, bad int) {
	complete = map[int]uint32{}
	from := 0
	for i := range len(s) {
		p := s[from : i+1]
		if begin[p] {
			continue
		}
		c, ok := scalarOf(p)
		if !ok {
			return complete, i
		}
		complete[i] = c
		from = i + 1
	}
	return complete, len(s)
}

// scalarOf: the scalar whose bytes these are.
func scalarOf(s string) (uint32, bool) {
	c := uint32(0)
	for i, b := range []byte(s) {
		switch {
		case i > 0:
			c = c<<6 | uint32(b&0x3F)
		case len(s) == 1:
			c = uint32(b)
		default:
			c = uint32(b & (0x7F >> len(s)))
		}
	}
	return c, scalar.Is(c) && spelt(c) == s
}

// texts: right ones, such as are cut off, and such as go wrong.
func texts() []string {
	l := []string{
		"", "A", "ABC", "\xC3\xA9", "A\xC3\xA9\xE2\x82\xAC", "\xF0\x9F\x98\x80\xF4\x8F\xBF\xBF",
		"\xE2\x82", "A\xF0\x9F\x98", "\xC3\xA9\xC3",
		"\x80", "AB\xC3\x28", "\xE2\x82\xAC\xE0\x80A", "\xE2\x82\xAC\xF4\x90", "\xEF\xBF\xBD\xED\xA0", "A\xF0\x9F\x98\x41",
	}
	return append(l, speltAll(edges))
}

// feedParts hands a text to a decoder in parts that end at the given places,
// each one so often till nothing is eaten of it any more, with the rooms in
// turn; and holds each answer against the facts. It tells all that was told.
func feedParts(t *testing.T, s string, ends []int, turn []int, begin map[string]bool) []uint32 {
	complete, bad := facts(s, begin)
	d := uni8.NewDecoder()
	var all []uint32
	at, calls := 0, 0
	for _, end := range append(ends, len(s)) {
		for more := true; more; calls++ {
			room := turn[calls%len(turn)]
			var want []uint32
			to, failed := at, false
			for to < end && len(want) < room && !failed {
				if failed = to == bad; !failed {
					if c, ok := complete[to]; ok {
						want = append(want, c)
					}
					to++
				}
			}
			failed = failed || d.Fail() != api.Fail{}
			n, l := d.Feed(s[at:end], room)
			if n != to-at || !slices.Equal(l, want) || d.At() != to {
				t.Fatalf("% X from %d to %d, room %d: %d, %X, at %d, not %d, %X", s, at, end, room, n, l, d.At(), to-at, want)
			}
			if got := decoderOf(d); failed && got != (decoder{bad, form(bad), true}) || !failed && got != (decoder{at: to}) {
				t.Fatalf("% X up to %d: %v", s, to, got)
			}
			all = append(all, l...)
			more = at < end && !failed && (n > 0 || room < 1)
			at = to
		}
	}
	return all
}

func TestP31PartsAndRooms(t *testing.T) {
	begin := beginnings()
	turns := [][]int{{math.MaxInt}, {1}, {2}, {3}, {0, 1}, {-1, 2, 1}, {1, 5, math.MinInt}}
	for _, s := range texts() {
		whole, _ := read(s)
		for i := range len(s) + 1 {
			for j := i; j <= len(s); j++ {
				for _, turn := range turns {
					if got := feedParts(t, s, []int{i, j}, turn, begin); !slices.Equal(got, whole) {
						t.Fatalf("% X, cut at %d and %d: %X, not %X", s, i, j, got, whole)
					}
				}
			}
		}
	}
}

// Bytes of a scalar that isn't complete take no room.
func TestP31RoomIsOfScalars(t *testing.T) {
	d := uni8.NewDecoder()
	for i, b := range []string{"\xF4", "\x8F", "\xBF"} {
		if n, l := d.Feed(b, 1); n != 1 || len(l) != 0 || d.At() != i+1 {
			t.Error(i, n, l)
		}
	}
	if n, l := d.Feed("\xBF\xE2", 1); n != 1 || !slices.Equal(l, []uint32{0x10FFFF}) {
		t.Error(n, l)
	}
	if n, l := d.Feed("\xE2\x82", 1); n != 2 || len(l) != 0 || d.At() != 6 {
		t.Error(n, l)
	}
}

// Without room no byte is looked at, not even a wrong one.
func TestP31NoRoom(t *testing.T) {
	for _, s := range []string{"", "A", "\x80", "\xE2\x82", "\xFF\xFF"} {
		for _, room := range []int{0, -1, math.MinInt} {
			d := uni8.NewDecoder()
			if n, l := d.Feed(s, room); n != 0 || len(l) != 0 || decoderOf(d) != (decoder{}) {
				t.Errorf("% X, room %d: %d, %X, %v", s, room, n, l, decoderOf(d))
			}
		}
	}
	d := uni8.NewDecoder()
	if n, l := d.Feed("A\x80", 1); n != 1 || !slices.Equal(l, []uint32{0x41}) || decoderOf(d) != (decoder{at: 1}) {
		t.Error("behind the last scalar that there is room for:", n, l, decoderOf(d))
	}
	if n, l := d.Feed("\x80", 0); n != 0 || len(l) != 0 || decoderOf(d) != (decoder{at: 1}) {
		t.Error("without room:", n, l, decoderOf(d))
	}
	if n, l := d.Feed("\x80", 1); n != 0 || len(l) != 0 || decoderOf(d) != (decoder{1, form(1), true}) {
		t.Error("with room:", n, l, decoderOf(d))
	}
}

// stays: whatever is called, such a decoder is as it was, and tells nothing.
func stays(t *testing.T, d *uni8.Decoder, how string) {
	t.Helper()
	was := decoderOf(d)
	for range 2 {
		for _, s := range []string{"", "A", "\x80", "\xAC", "\xE2\x82\xAC", "\xFF"} {
			for _, room := range rooms {
				if n, l := d.Feed(s, room); n != 0 || len(l) != 0 || decoderOf(d) != was {
					t.Errorf("%s, then % X: %d, %X, %v", how, s, n, l, decoderOf(d))
				}
			}
		}
		d.End()
		if decoderOf(d) != was {
			t.Errorf("%s, then End: %v, not %v", how, decoderOf(d), was)
		}
	}
}

func TestP31BehindAFailure(t *testing.T) {
	for _, x := range broken {
		d := uni8.NewDecoder()
		d.Feed("A"+x.s, 9)
		if decoderOf(d) != (decoder{x.at + 1, form(x.at + 1), true}) {
			t.Errorf("% X: %v", x.s, decoderOf(d))
		}
		stays(t, d, fmt.Sprintf("A% X", x.s))
	}
	d := uni8.NewDecoder()
	d.Feed("A\xE2\x82", 9)
	d.End()
	if decoderOf(d) != (decoder{3, cut(3), true}) {
		t.Error(decoderOf(d))
	}
	stays(t, d, "cut off")
}

func TestP31BehindAnEnd(t *testing.T) {
	for _, s := range []string{"", "A", "\xE2\x82\xAC", "\xF4\x8F\xBF\xBF\x00"} {
		d := uni8.NewDecoder()
		d.Feed(s, 9)
		d.End()
		if decoderOf(d) != (decoder{at: len(s), done: true}) {
			t.Errorf("% X: %v", s, decoderOf(d))
		}
		stays(t, d, fmt.Sprintf("% X, ended", s))
	}
}

// What one call told isn't touched by the next ones, nor they by what is done to it.
func TestP31WhatIsToldIsNewMemory(t *testing.T) {
	d := uni8.NewDecoder()
	_, first := d.Feed("ABCDE", 2)
	was := slices.Clone(first)
	_, second := d.Feed("CDE", 2)
	if !slices.Equal(first, was) || !slices.Equal(second, []uint32{'C', 'D'}) {
		t.Error(first, second)
	}
	first[0] = 7
	_ = append(first, 8, 9)
	second[1] = 6
	_ = append(second[:0], 5, 5, 5, 5)
	if _, third := d.Feed("E\xE2\x82\xAC", 2); !slices.Equal(third, []uint32{'E', 0x20AC}) {
		t.Error(third)
	}
	if first[1] != 'B' {
		t.Error(first)
	}
}

func TestP31DecodersAreForThemselves(t *testing.T) {
	a, b := uni8.NewDecoder(), uni8.NewDecoder()
	a.Feed("\xE2", 9)
	b.Feed("\xF0\x9F", 9)
	a.Feed("\x82", 9)
	if n, l := b.Feed("\x98\x80", 9); n != 2 || !slices.Equal(l, []uint32{0x1F600}) {
		t.Error(n, l)
	}
	if n, l := a.Feed("\xAC", 9); n != 1 || !slices.Equal(l, []uint32{0x20AC}) {
		t.Error(n, l)
	}
	b.Feed("\xFF", 9)
	if decoderOf(a) != (decoder{at: 3}) || decoderOf(b) != (decoder{4, form(4), true}) {
		t.Error(decoderOf(a), decoderOf(b))
	}
}

func TestP32New(t *testing.T) {
	e := uni8.NewEncoder()
	if encoderOf(e) != (encoder{}) {
		t.Error(encoderOf(e))
	}
	if n, s := e.Feed(nil, 9); n != 0 || s != "" || encoderOf(e) != (encoder{}) {
		t.Error(n, s, encoderOf(e))
	}
	e.End()
	if encoderOf(e) != (encoder{done: true}) {
		t.Error(encoderOf(e))
	}
}

func TestP32EndsOfRows(t *testing.T) {
	for _, x := range []struct {
		c uint32
		s string
	}{
		{0, "\x00"}, {0x41, "\x41"}, {0x7F, "\x7F"},
		{0x80, "\xC2\x80"}, {0xE9, "\xC3\xA9"}, {0x7FF, "\xDF\xBF"},
		{0x800, "\xE0\xA0\x80"}, {0x20AC, "\xE2\x82\xAC"}, {0xD7FF, "\xED\x9F\xBF"},
		{0xE000, "\xEE\x80\x80"}, {0xFEFF, "\xEF\xBB\xBF"}, {0xFFFD, "\xEF\xBF\xBD"}, {0xFFFF, "\xEF\xBF\xBF"},
		{0x10000, "\xF0\x90\x80\x80"}, {0x1F600, "\xF0\x9F\x98\x80"}, {0xFFFFF, "\xF3\xBF\xBF\xBF"},
		{0x100000, "\xF4\x80\x80\x80"}, {0x10FFFF, "\xF4\x8F\xBF\xBF"},
	} {
		if s, f := write([]uint32{x.c}); s != x.s || f != (api.Fail{}) {
			t.Errorf("%X: % X, %v", x.c, s, f)
		}
	}
}

// Every scalar's bytes are kept where there is no room, four of them at most.
func TestP32EveryScalar(t *testing.T) {
	e := uni8.NewEncoder()
	at := 0
	eachScalar(func(c uint32) {
		want := spelt(c)
		at++
		if n, s := e.Feed([]uint32{c}, 0); n != 1 || s != "" || encoderOf(e) != (encoder{at: at, kept: len(want)}) {
			t.Fatalf("%X: %d, % X, %v", c, n, s, encoderOf(e))
		}
		if e.Kept() > 4 {
			t.Fatalf("%X: %d bytes are kept", c, e.Kept())
		}
		if n, s := e.Feed(nil, 9); n != 0 || s != want || e.Kept() != 0 {
			t.Fatalf("%X: % X, not % X", c, s, want)
		}
	})
	if at != scalars {
		t.Error(at)
	}
}

func TestP32NoScalars(t *testing.T) {
	l := []uint32{0x110000, 0x110001, 0x1FFFFF, 0x200000, 0x7FFFFFFF, 0x80000000, 0x80000041, math.MaxUint32}
	for c := uint32(0xD800); c <= 0xDFFF; c++ {
		l = append(l, c)
	}
	for _, c := range l {
		for _, ahead := range [][]uint32{{}, {0x41}, {0x10FFFF, 0xD7FF, 0xE000}} {
			e := uni8.NewEncoder()
			at := len(ahead)
			n, s := e.Feed(append(slices.Clone(ahead), c, 0x42, 0xD800), 99)
			if n != at || s != speltAll(ahead) || encoderOf(e) != (encoder{at, wrong(at), true, 0}) {
				t.Fatalf("%X behind %X: %d, % X, %v", c, ahead, n, s, encoderOf(e))
			}
		}
	}
}

// feedScalars hands a list to an encoder in parts that end at the given places,
// each one so often till nothing of it is left, or it has failed, with the
// rooms in turn; and holds each answer against what the bytes must be.
func feedScalars(t *testing.T, l []uint32, ends []int, turn []int) string {
	bad := scalar.First(l...)
	if bad < 0 {
		bad = len(l)
	}
	e := uni8.NewEncoder()
	made, all, at, calls := "", "", 0, 0 // made: of what was eaten; all: what was told of it
	for _, end := range append(ends, len(l)) {
		for more := true; more; calls++ {
			room := turn[calls%len(turn)]
			free := max(room, 0)
			want := made[len(all):]
			to, failed := at, false
			for to < end && len(want) <= free && !failed {
				if failed = to == bad; !failed {
					made += spelt(l[to])
					want += spelt(l[to])
					to++
				}
			}
			failed = failed || e.Fail() != api.Fail{}
			want = want[:min(free, len(want))]
			n, s := e.Feed(l[at:end], room)
			all += s
			kept := len(made) - len(all)
			if n != to-at || s != want || e.At() != to || e.Kept() != kept || kept > 4 {
				t.Fatalf("%X from %d to %d, room %d: %d, % X, %v, not %d, % X", l, at, end, room, n, s, encoderOf(e), to-at, want)
			}
			if got := encoderOf(e); failed && got != (encoder{bad, wrong(bad), true, 0}) || !failed && got != (encoder{at: to, kept: kept}) {
				t.Fatalf("%X up to %d: %v", l, to, got)
			}
			at = to
			more = at < end && !failed
		}
	}
	was := e.Fail()
	e.End()
	if encoderOf(e) != (encoder{at, was, len(all) == len(made), len(made) - len(all)}) {
		t.Fatalf("%X, and End: %v", l, encoderOf(e))
	}
	n, s := e.Feed(l, 4)
	if n != 0 || all+s != made || encoderOf(e) != (encoder{at, was, true, 0}) {
		t.Fatalf("%X, behind End: %d, % X, %v", l, n, s, encoderOf(e))
	}
	return made
}

func TestP32PartsAndRooms(t *testing.T) {
	turns := [][]int{{math.MaxInt}, {1}, {2}, {3}, {4}, {5}, {0, 1}, {-1, 2, 1}, {1, 7, math.MinInt}}
	lists := [][]uint32{
		{}, {0x41}, {0x41, 0x42, 0x43}, {0x41, 0xE9, 0x20AC, 0x1F600}, {0x10FFFF, 0x10FFFF, 0},
		{0xD800}, {0x41, 0xDFFF, 0x42}, {0x20AC, 0x20AC, 0x110000}, {0x10FFFF, math.MaxUint32, 0x41},
		edges,
	}
	for _, l := range lists {
		whole, _ := write(l)
		for i := range len(l) + 1 {
			for j := i; j <= len(l); j++ {
				for _, turn := range turns {
					if got := feedScalars(t, l, []int{i, j}, turn); got != whole {
						t.Fatalf("%X, cut at %d and %d: % X, not % X", l, i, j, got, whole)
					}
				}
			}
		}
	}
}

// While it keeps bytes it looks at no number; while it keeps none it looks at
// one, room or not.
func TestP32WhatIsKeptComesFirst(t *testing.T) {
	e := uni8.NewEncoder()
	if n, s := e.Feed([]uint32{0x20AC, 0xD800}, 2); n != 1 || s != "\xE2\x82" || encoderOf(e) != (encoder{at: 1, kept: 1}) {
		t.Errorf("%d, % X, %v", n, s, encoderOf(e))
	}
	for _, room := range []int{0, -1, math.MinInt} {
		if n, s := e.Feed([]uint32{0xD800}, room); n != 0 || s != "" || encoderOf(e) != (encoder{at: 1, kept: 1}) {
			t.Errorf("room %d: %d, % X, %v", room, n, s, encoderOf(e))
		}
	}
	if n, s := e.Feed([]uint32{0x41, 0xD800}, 1); n != 1 || s != "\xAC" || encoderOf(e) != (encoder{at: 2, kept: 1}) {
		t.Errorf("%d, % X, %v", n, s, encoderOf(e))
	}
	if n, s := e.Feed([]uint32{0xD800}, 1); n != 0 || s != "A" || encoderOf(e) != (encoder{2, wrong(2), true, 0}) {
		t.Errorf("%d, % X, %v", n, s, encoderOf(e))
	}
	for _, room := range []int{0, -1, math.MinInt} {
		e := uni8.NewEncoder()
		if n, s := e.Feed([]uint32{0x41, 0x42}, room); n != 1 || s != "" || encoderOf(e) != (encoder{at: 1, kept: 1}) {
			t.Errorf("room %d: %d, % X, %v", room, n, s, encoderOf(e))
		}
		e = uni8.NewEncoder()
		if n, s := e.Feed([]uint32{0xDFFF}, room); n != 0 || s != "" || encoderOf(e) != (encoder{0, wrong(0), true, 0}) {
			t.Errorf("room %d: %d, % X, %v", room, n, s, encoderOf(e))
		}
	}
}

// What is kept is told behind an end, too, by whatever rooms; nothing else is.
func TestP32BehindAnEnd(t *testing.T) {
	for _, room := range rooms {
		e := uni8.NewEncoder()
		e.Feed([]uint32{0x10FFFF}, 0)
		e.End()
		if encoderOf(e) != (encoder{at: 1, kept: 4}) {
			t.Error(encoderOf(e))
		}
		k := min(max(room, 0), 4)
		for _, l := range [][]uint32{{0x41}, {0xD800}} {
			n, s := e.Feed(l, room)
			if n != 0 || s != "\xF4\x8F\xBF\xBF"[4-e.Kept()-len(s):4-e.Kept()] || e.Kept() < 4-2*k {
				t.Errorf("room %d: %d, % X, %v", room, n, s, encoderOf(e))
			}
		}
		e.End()
		if left := max(4-2*k, 0); encoderOf(e) != (encoder{at: 1, kept: left, done: left == 0}) {
			t.Errorf("room %d: %v", room, encoderOf(e))
		}
	}
}

func TestP32BehindAFailure(t *testing.T) {
	e := uni8.NewEncoder()
	e.Feed([]uint32{0x20AC, 0x110000}, 9)
	for range 2 {
		for _, l := range [][]uint32{nil, {0x41}, {0xD800}, {0x110000, 0x41}} {
			for _, room := range rooms {
				if n, s := e.Feed(l, room); n != 0 || s != "" || encoderOf(e) != (encoder{1, wrong(1), true, 0}) {
					t.Errorf("%X: %d, % X, %v", l, n, s, encoderOf(e))
				}
			}
		}
		e.End()
	}
}

func TestP32WhatIsHandedInStays(t *testing.T) {
	for _, room := range rooms {
		full := []uint32{0x41, 0x20AC, 0x10FFFF, 0xD800, 7, 8, 9}
		was := slices.Clone(full)
		e := uni8.NewEncoder()
		e.Feed(full[:2], room)
		e.Feed(full[2:4], room)
		if !slices.Equal(full, was) {
			t.Errorf("room %d: %X", room, full)
		}
	}
	l := []uint32{0x20AC}
	e := uni8.NewEncoder()
	e.Feed(l, 0)
	l[0] = 0x41
	if _, s := e.Feed(nil, 9); s != "\xE2\x82\xAC" {
		t.Errorf("% X: what was eaten hangs on the list still", s)
	}
}

func TestP32EncodersAreForThemselves(t *testing.T) {
	a, b := uni8.NewEncoder(), uni8.NewEncoder()
	a.Feed([]uint32{0x20AC}, 1)
	b.Feed([]uint32{0x1F600}, 1)
	if _, s := a.Feed(nil, 9); s != "\x82\xAC" {
		t.Errorf("% X", s)
	}
	b.Feed([]uint32{0xD800}, 9)
	if encoderOf(a) != (encoder{at: 1}) || encoderOf(b) != (encoder{1, wrong(1), true, 0}) {
		t.Error(encoderOf(a), encoderOf(b))
	}
}

// carry writes a list and reads it again, by so many scalars or bytes and so
// much room a call. Each call gets on by a scalar or a byte: more calls than
// there are of both are none of a machine that ends.
func carry(l []uint32, part, room int) (string, []uint32) {
	e, d := uni8.NewEncoder(), uni8.NewDecoder()
	var text strings.Builder
	most := 5*len(l) + 2
	for i := 0; i < most && !e.Done(); i++ {
		n, s := e.Feed(l[:min(part, len(l))], room)
		text.WriteString(s)
		if l = l[n:]; len(l) == 0 {
			e.End()
		}
	}
	var back []uint32
	s := text.String()
	for i := 0; i < most && !d.Done(); i++ {
		n, c := d.Feed(s[:min(part, len(s))], room)
		back = append(back, c...)
		if s = s[n:]; len(s) == 0 {
			d.End()
		}
	}
	return text.String(), back
}

func TestP33ThereAndBack(t *testing.T) {
	var all []uint32
	eachScalar(func(c uint32) { all = append(all, c) })
	for _, x := range []struct{ part, room int }{{len(all) * 4, math.MaxInt}, {1, 1}, {3, 2}, {2, 5}, {1000, 7}} {
		s, back := carry(all, x.part, x.room)
		if s != speltAll(all) {
			t.Errorf("parts of %d, room %d: written otherwise", x.part, x.room)
		}
		if !slices.Equal(back, all) {
			t.Errorf("parts of %d, room %d: read otherwise", x.part, x.room)
		}
	}
	slices.Reverse(all)
	if _, back := carry(all, 100, 100); !slices.Equal(back, all) {
		t.Error("the greatest ones first: read otherwise")
	}
}

func TestP33ReadAndWrittenAgain(t *testing.T) {
	begin := beginnings()
	for _, s := range texts() {
		l, f := read(s)
		_, bad := facts(s, begin)
		again, _ := write(l)
		if f == (api.Fail{}) && again != s {
			t.Errorf("% X: % X again", s, again)
		}
		if !strings.HasPrefix(s, again) || len(again) > bad {
			t.Errorf("% X: % X is told ahead of %d", s, again, bad)
		}
	}
}

func TestP33Order(t *testing.T) {
	last := ""
	eachScalar(func(c uint32) {
		s, _ := write([]uint32{c})
		if c > 0 && last >= s {
			t.Fatalf("%X: % X isn't greater than % X", c, s, last)
		}
		last = s
	})
	lists := [][]uint32{nil}
	for _, a := range edges {
		lists = append(lists, []uint32{a})
		for _, b := range edges {
			lists = append(lists, []uint32{a, b})
		}
	}
	for _, a := range lists {
		x, _ := write(a)
		for _, b := range lists {
			y, _ := write(b)
			if strings.Compare(x, y) != scalar.Order(a, b) {
				t.Fatalf("%X and %X: % X and % X", a, b, x, y)
			}
		}
	}
}

func TestExamples(t *testing.T) {
	for _, x := range []struct {
		s string
		l []uint32
		f api.Fail
	}{
		{"\xE2\x82\xAC", []uint32{0x20AC}, api.Fail{}},
		{"\xE0\x80", nil, form(1)},
		{"\xED\xA0", nil, form(1)},
		{"\xF4\x90", nil, form(1)},
		{"\xE2\x82", nil, cut(2)},
		{"\xEF\xBB\xBF", []uint32{api.Mark}, api.Fail{}},
	} {
		if l, f := read(x.s); !slices.Equal(l, x.l) || f != x.f {
			t.Errorf("% X: %X, %v", x.s, l, f)
		}
	}
	if s, f := write([]uint32{0x41, 0xE9, 0x20AC}); s != "\x41\xC3\xA9\xE2\x82\xAC" || f != (api.Fail{}) {
		t.Errorf("% X, %v", s, f)
	}
}
