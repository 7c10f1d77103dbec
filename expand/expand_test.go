package expand_test

import (
	"fmt"
	"math"
	"slices"
	"strings"
	"testing"

	"pilcrow/api"
	"pilcrow/expand"
	"pilcrow/scalar"
	"pilcrow/uni16"
)

// What a part is.
const (
	own     = iota + 1 // this scalar
	active             // a byte in the active window
	named              // a byte in a window that is named
	two                // two bytes lay a window
	index              // an index lays a window
	change             // a window is active
	unicode            // the Unicode mode
	unit               // a unit is its last two bytes
)

// row is one of the chapter's tables: its first bytes, how many come behind
// one, and what the part is.
type row struct {
	from, to byte
	more     int
	what     int
}

var singleRows = []row{
	{0x00, 0x00, 0, own}, {0x09, 0x09, 0, own}, {0x0A, 0x0A, 0, own}, {0x0D, 0x0D, 0, own}, {0x20, 0x7F, 0, own},
	{0x80, 0xFF, 0, active}, {0x01, 0x08, 1, named}, {0x0B, 0x0B, 2, two}, {0x0E, 0x0E, 2, unit},
	{0x0F, 0x0F, 0, unicode}, {0x10, 0x17, 0, change}, {0x18, 0x1F, 1, index},
}

var unicodeRows = []row{
	{0x00, 0xDF, 1, unit}, {0xF3, 0xFF, 1, unit}, {0xE0, 0xE7, 0, change}, {0xE8, 0xEF, 1, index},
	{0xF0, 0xF0, 2, unit}, {0xF1, 0xF1, 2, two},
}

var statics = [8]uint32{0, 0x80, 0x100, 0x300, 0x2000, 0x2080, 0x2100, 0x3000}

var dynamics = [8]uint32{0x80, 0xC0, 0x400, 0x600, 0x900, 0x3040, 0x30A0, 0xFF00}

// indexed: the offset that an index stands for, by layer 13's chapter.
func indexed(x byte) (uint32, bool) {
	switch {
	case 0x01 <= x && x <= 0x67:
		return 0x80 * uint32(x), true
	case 0x68 <= x && x <= 0xA7:
		return 0x80*uint32(x) + 0xAC00, true
	case x >= 0xF9:
		return [...]uint32{0xC0, 0x250, 0x370, 0x530, 0x3040, 0x30A0, 0xFF60}[x-0xF9], true
	}
	return 0, false
}

// extended: what two bytes stand for, by layer 13's chapter.
func extended(h, l byte) (int, uint32) {
	return int(h / 0x20), 0x10000 + 0x80*(0x100*uint32(h%0x20)+uint32(l))
}

// part is one that is complete: where it ends, and its scalar, or its unit.
type part struct {
	end    int
	number uint32
	what   int // own, unit or change
}

// state is what a text's parts hang on.
type state struct {
	rows    []row
	windows [8]uint32
	active  int
}

// do: what a part is, whose bytes these are, by its row; false, if it is none.
func (st *state) do(r row, s string) (part, bool) {
	n := int(s[0] & 7)
	switch r.what {
	case own:
		return part{number: uint32(s[0]), what: own}, true
	case active:
		return part{number: st.windows[st.active] + uint32(s[0]) - 0x80, what: own}, true
	case named:
		n = int(s[0]) - 1
		if s[1] < 0x80 {
			return part{number: statics[n] + uint32(s[1]), what: own}, true
		}
		return part{number: st.windows[n] + uint32(s[1]) - 0x80, what: own}, true
	case unit:
		return part{number: 0x100*uint32(s[len(s)-2]) + uint32(s[len(s)-1]), what: unit}, true
	case unicode:
		st.rows = unicodeRows
		return part{what: change}, true
	case two:
		var offset uint32
		n, offset = extended(s[1], s[2])
		st.windows[n] = offset
	case index:
		offset, ok := indexed(s[1])
		if !ok {
			return part{}, false
		}
		st.windows[n] = offset
	}
	st.active, st.rows = n, singleRows
	return part{what: change}, true
}

// parts: those of a text, and whether it is nothing but parts.
func parts(s string) ([]part, bool) {
	st := state{singleRows, dynamics, 0}
	var l []part
	for at := 0; at < len(s); {
		i := slices.IndexFunc(st.rows, func(r row) bool { return r.from <= s[at] && s[at] <= r.to })
		if i < 0 || at+1+st.rows[i].more > len(s) {
			return l, false
		}
		end := at + 1 + st.rows[i].more
		p, ok := st.do(st.rows[i], s[at:end])
		if !ok {
			return l, false
		}
		p.end = end
		l = append(l, p)
		at = end
	}
	return l, true
}

// denoted: the scalars of a text, each with the place behind its last byte; and
// whether it denotes something.
func denoted(s string) ([]part, bool) {
	l, ok := parts(s)
	if !ok {
		return nil, false
	}
	var told []part
	for i, p := range l {
		first := i > 0 && l[i-1].what == unit && l[i-1].number/0x400 == 0x36
		second := p.what == unit && p.number/0x400 == 0x37
		switch {
		case first != second:
			return nil, false
		case second:
			c := 0x10000 + 0x400*(l[i-1].number%0x400) + p.number%0x400
			told = append(told, part{p.end, c, own})
		case p.what == own, p.what == unit && p.number/0x400 != 0x36:
			told = append(told, p)
		}
	}
	last := len(l) - 1
	return told, last < 0 || l[last].what != unit || l[last].number/0x400 != 0x36
}

// onward: with one of these behind it, each text that is right so far denotes
// something: they are the rest of a part, and of a second unit, in either mode.
var onward = []string{"", "\x01", "\x01\x01", "\xDC\x01", "\x0E\xDC\x01", "\x01\x0E\xDC\x01", "\x01\xDC\x01"}

// told is what is to be known of a text: which scalar is complete with which
// byte, at which byte it goes wrong (its length, if it doesn't), and whether
// what is ahead of there denotes nothing.
type told struct {
	complete map[int]uint32
	bad      int
	open     bool
}

func facts(s string) told {
	f := told{complete: map[int]uint32{}}
	for f.bad < len(s) && goesOn(s[:f.bad+1]) >= 0 {
		f.bad++
	}
	begin := s[:f.bad]
	more := goesOn(begin)
	f.open = more > 0
	l, _ := denoted(begin + onward[more])
	for _, p := range l {
		if p.end <= f.bad {
			f.complete[p.end-1] = p.number
		}
	}
	return f
}

// goesOn: which one goes on so; -1, if the text isn't right so far.
func goesOn(s string) int {
	return slices.IndexFunc(onward, func(more string) bool {
		_, ok := denoted(s + more)
		return ok
	})
}

// end: how a text ends.
func (f told) end(s string) api.Fail {
	switch {
	case f.bad < len(s):
		return form(f.bad)
	case f.open:
		return cut(f.bad)
	}
	return api.Fail{}
}

// list: all scalars that are told.
func (f told) list() []uint32 {
	var l []uint32
	for i := range f.bad {
		if c, ok := f.complete[i]; ok {
			l = append(l, c)
		}
	}
	return l
}

// form and cut: what goes wrong, and where.
func form(at int) api.Fail { return api.Fail{Err: api.ErrForm, At: at} }
func cut(at int) api.Fail  { return api.Fail{Err: api.ErrCut, At: at} }

// decoder is all that a decoder tells of itself.
type decoder struct {
	at   int
	fail api.Fail
	done bool
}

func decoderOf(d *expand.Decoder) decoder { return decoder{d.At(), d.Fail(), d.Done()} }

// read: what a whole text tells, and how it ends.
func read(s string) ([]uint32, api.Fail) {
	d := expand.NewDecoder()
	_, l := d.Feed(s, math.MaxInt)
	d.End()
	return l, d.Fail()
}

// one: a text of these bytes.
func one(b ...byte) string { return string(b) }

// both: a unit's two bytes.
func both(u int) string { return one(byte(u>>8), byte(u)) }

// rooms: below 1, 1, few, more than enough.
var rooms = []int{math.MinInt, -1, 0, 1, 2, 3, 4, 5, 7, 1000, math.MaxInt}

// source is numbers without any order to be seen, the same in each run.
type source uint64

func (r *source) below(n int) int {
	*r = *r*6364136223846793005 + 1442695040888963407
	return int((uint64(*r) >> 33) % uint64(n))
}

// bytes that begin a part, or lay a window, or are a unit's first one.
const often = "\x01\x08\x0B\x0E\x0E\x0F\x0F\x12\x17\x1A\x1F\xD8\xDB\xDC\xDC\xDF\xE0\xE3\xE8\xEB\xF0\xF0\xF1\xF9\xA7\x67"

// text: bytes of any kind, so many at most.
func (r *source) text(most int) string {
	s := make([]byte, r.below(most+1))
	for i := range s {
		switch r.below(4) {
		case 0:
			s[i] = byte(r.below(256))
		case 1:
			s[i] = byte(0x20 + r.below(0x60))
		default:
			s[i] = often[r.below(len(often))]
		}
	}
	return string(s)
}

// hold: a text tells just this, and ends just so, at once and by the chapter's
// words.
func hold(t *testing.T, s string, l []uint32, fail api.Fail) {
	t.Helper()
	d := expand.NewDecoder()
	n, got := d.Feed(s, math.MaxInt)
	at := len(s)
	if fail.Err != api.OK {
		at = fail.At
	}
	if n != at || !slices.Equal(got, l) {
		t.Errorf("% X: %d, %X, not %d, %X", s, n, got, at, l)
	}
	if want := (decoder{at, form(at), true}); at < len(s) && decoderOf(d) != want {
		t.Errorf("% X: %v, not %v", s, decoderOf(d), want)
	}
	if want := (decoder{at: at}); at == len(s) && decoderOf(d) != want {
		t.Errorf("% X: %v, not %v", s, decoderOf(d), want)
	}
	d.End()
	if want := (decoder{at, fail, true}); decoderOf(d) != want {
		t.Errorf("% X, and End: %v, not %v", s, decoderOf(d), want)
	}
}

// check: a text tells what the chapter's words say, and ends so.
func check(t *testing.T, s string) api.Errno {
	t.Helper()
	f := facts(s)
	hold(t, s, f.list(), f.end(s))
	if t.Failed() {
		t.FailNow()
	}
	return f.end(s).Err
}

func TestExamples(t *testing.T) {
	for _, x := range []struct {
		s string
		l []uint32
		f api.Fail
	}{
		{"\x41\xE9", []uint32{0x41, 0xE9}, api.Fail{}},
		{"\x12\xB0", []uint32{0x430}, api.Fail{}},
		{"\x0E\xFE\xFF", []uint32{0xFEFF}, api.Fail{}},
		{"\x0F\xD8\x3D\xDE\x00", []uint32{0x1F600}, api.Fail{}},
		{"\x0E\xD8\x3D\x41", nil, form(3)},
		{"\x0C", nil, form(0)},
		{"\x18\x00", nil, form(1)},
		{"\x0B\x01\xEC\x80", []uint32{0x1F600}, api.Fail{}},
		{"\x12\x9C\xBE\xC1", []uint32{0x41C, 0x43E, 0x441}, api.Fail{}},
		{"\x0F\x04\x1C\x04\x3E\x04\x41", []uint32{0x41C, 0x43E, 0x441}, api.Fail{}},
	} {
		hold(t, x.s, x.l, x.f)
	}
}

// known: texts, and what they denote, written out.
var known = []struct {
	s string
	l []uint32
}{
	{"", nil},
	{"\x00\x09\x0A\x0D\x20\x7F", []uint32{0, 9, 0xA, 0xD, 0x20, 0x7F}},
	{"\x80\xFF", []uint32{0x80, 0xFF}},
	{"\x01\x00\x01\x7F\x08\x00\x08\x7F", []uint32{0, 0x7F, 0x3000, 0x307F}},
	{"\x01\x80\x01\xFF\x08\x80\x08\xFF", []uint32{0x80, 0xFF, 0xFF00, 0xFF7F}},
	{"\x05\x20\x05\xA0\xA0", []uint32{0x2020, 0x920, 0xA0}},
	{"\x0B\x00\x00\x80\xFF", []uint32{0x10000, 0x1007F}},
	{"\x0B\xFF\xFF\x80\xFF", []uint32{0x10FF80, 0x10FFFF}},
	{"\x0B\x7F\xFF\x04\xFF\x10\xFF\x13\xFF", []uint32{0x10FFFF, 0xFF, 0x10FFFF}},
	{"\x0E\x00\x00\x0E\xD7\xFF\x0E\xE0\x00\x0E\xFF\xFF", []uint32{0, 0xD7FF, 0xE000, 0xFFFF}},
	{"\x0E\xE5\x41\x0E\xF2\x0C\xE9", []uint32{0xE541, 0xF20C, 0xE9}},
	{"\x0E\xD8\x00\x0E\xDC\x00\x0E\xDB\xFF\x0E\xDF\xFF\x41", []uint32{0x10000, 0x10FFFF, 0x41}},
	{"\x0F", nil},
	{"\x0F\x0F\x0C\x0C\x0F", []uint32{0xF0C, 0xC0F}},
	{"\x0F\x00\x00\xD7\xFF\xF3\x00\xFF\xFF", []uint32{0, 0xD7FF, 0xF300, 0xFFFF}},
	{"\x0F\xF0\x00\x00\xF0\xE0\x00\xF0\xF2\xFF\xF0\xFF\xFF", []uint32{0, 0xE000, 0xF2FF, 0xFFFF}},
	{"\x0F\xD8\x00\xDC\x00\xDB\xFF\xDF\xFF", []uint32{0x10000, 0x10FFFF}},
	{"\x0F\xF0\xD8\x01\xDC\x02\xD8\x03\xF0\xDC\x04\xF0\xD8\x05\xF0\xDC\x06", []uint32{0x10402, 0x10C04, 0x11406}},
	{"\x0F\xE0\x80\x0F\xE7\x80\x0F\x41\x42\xE2", []uint32{0x80, 0xFF00, 0x4142}},
	{"\x10\x80\x17\x80\x11\xE9\x12\xB0", []uint32{0x80, 0xFF00, 0x129, 0x430}},
	{"\x18\x01\x80\x1F\xFF\xFF\x17\x80\x10\x80", []uint32{0x80, 0xFFDF, 0xFF60, 0x80}},
	{"\x1B\x67\xFF\x13\xFF\x1B\x68\x80\x1B\xA7\xFF", []uint32{0x33FF, 0x33FF, 0xE000, 0xFFFF}},
	{"\x0F\xE8\xF9\x80\x0F\xEF\x4C\xEA\x18\x02\xFF", []uint32{0xC0, 0x266A, 0x17F}},
	{"\x0F\xF1\xFF\xFF\xFF\x0F\xF1\x00\x01\x80\x17\x81", []uint32{0x10FFFF, 0x10080, 0x10FF81}},
	{"\x12\xB0\x0F\x41\x42\xE1\xE9\x12\xB0", []uint32{0x430, 0x4142, 0x129, 0x430}},
	{"\x12\xB0\x0E\x41\x42\xB0\x04\xA0\xB0\x04\x20\xB0", []uint32{0x430, 0x4142, 0x430, 0x620, 0x430, 0x320, 0x430}},
}

func TestP141Known(t *testing.T) {
	for _, x := range known {
		hold(t, x.s, x.l, api.Fail{})
		if f := facts(x.s); !slices.Equal(f.list(), x.l) || f.end(x.s) != (api.Fail{}) {
			t.Errorf("% X by the chapter's words: %X, %v", x.s, f.list(), f.end(x.s))
		}
	}
}

func TestP141New(t *testing.T) {
	d := expand.NewDecoder()
	if decoderOf(d) != (decoder{}) {
		t.Error(decoderOf(d))
	}
	if n, l := d.Feed("", 9); n != 0 || len(l) != 0 || decoderOf(d) != (decoder{}) {
		t.Error(n, l, decoderOf(d))
	}
	d.End()
	if decoderOf(d) != (decoder{done: true}) {
		t.Error("the empty text denotes no scalars:", decoderOf(d))
	}
}

// Each first byte of the single mode, as the table has it: alone, and with what
// comes behind it.
func TestP141FirstBytesOfTheSingleMode(t *testing.T) {
	for b := range 256 {
		s := one(byte(b))
		switch {
		case b == 0x0C:
			hold(t, s, nil, form(0))
		case b == 0, b == 9, b == 0xA, b == 0xD, b >= 0x20:
			hold(t, s, []uint32{uint32(b)}, api.Fail{}) // 80 to FF: the window 0 is from 80 on
		case b <= 8:
			hold(t, s, nil, cut(1))
			hold(t, s+"\x00", []uint32{statics[b-1]}, api.Fail{})
			hold(t, s+"\x80\x80", []uint32{dynamics[b-1], 0x80}, api.Fail{})
		case b == 0xB:
			hold(t, s, nil, cut(1))
			hold(t, s+"\x40", nil, cut(2))
			hold(t, s+"\x40\x01\x81", []uint32{0x10081}, api.Fail{})
		case b == 0xE:
			hold(t, s, nil, cut(1))
			hold(t, s+"\x12", nil, cut(2))
			hold(t, s+"\x12\x34\x41", []uint32{0x1234, 0x41}, api.Fail{})
		case b == 0xF:
			hold(t, s, nil, api.Fail{})
			hold(t, s+"\x12\x34", []uint32{0x1234}, api.Fail{})
		case b <= 0x17:
			hold(t, s+"\x80\x41", []uint32{dynamics[b-0x10], 0x41}, api.Fail{})
			hold(t, s, nil, api.Fail{})
		default:
			hold(t, s, nil, cut(1))
			hold(t, s+"\x05\x80\x41", []uint32{0x280, 0x41}, api.Fail{})
			hold(t, s+"\x00", nil, form(1))
		}
	}
}

// Each first byte of the Unicode mode.
func TestP141FirstBytesOfTheUnicodeMode(t *testing.T) {
	for b := range 256 {
		s := "\x0F" + one(byte(b))
		switch {
		case b == 0xF2, 0xDC <= b && b <= 0xDF:
			hold(t, s, nil, form(1))
		case 0xD8 <= b && b <= 0xDB:
			hold(t, s, nil, cut(2))
			hold(t, s+"\x01", nil, cut(3))
			hold(t, s+"\x01\xDC", nil, cut(4))
			hold(t, s+"\x01\xDC\x02\x12\x34", []uint32{0x10402 + uint32(b-0xD8)*0x40000, 0x1234}, api.Fail{})
		case 0xE0 <= b && b <= 0xE7:
			hold(t, s, nil, api.Fail{})
			hold(t, s+"\x80\x41", []uint32{dynamics[b-0xE0], 0x41}, api.Fail{})
		case 0xE8 <= b && b <= 0xEF:
			hold(t, s, nil, cut(2))
			hold(t, s+"\x05\x80\x41", []uint32{0x280, 0x41}, api.Fail{})
			hold(t, s+"\x00", nil, form(2))
		case b == 0xF0:
			hold(t, s, nil, cut(2))
			hold(t, s+"\x12", nil, cut(3))
			hold(t, s+"\x12\x34\x56\x78", []uint32{0x1234, 0x5678}, api.Fail{})
		case b == 0xF1:
			hold(t, s, nil, cut(2))
			hold(t, s+"\x40", nil, cut(3))
			hold(t, s+"\x40\x01\x81\x41", []uint32{0x10081, 0x41}, api.Fail{})
		default:
			hold(t, s, nil, cut(2))
			hold(t, s+"\x34\x56\x78", []uint32{uint32(b)<<8 | 0x34, 0x5678}, api.Fail{})
		}
	}
}

// Every byte in every window that a byte may be of.
func TestP141EveryByteOfEveryWindow(t *testing.T) {
	for n := range 8 {
		for b := range 0x80 {
			low, high := one(byte(b)), one(byte(b+0x80))
			c := dynamics[n] + uint32(b)
			hold(t, one(byte(0x10+n))+high, []uint32{c}, api.Fail{})
			hold(t, "\x0F"+one(byte(0xE0+n))+high, []uint32{c}, api.Fail{})
			hold(t, one(byte(n+1))+high+"\x81", []uint32{c, 0x81}, api.Fail{})
			hold(t, one(byte(n+1))+low+"\x81", []uint32{statics[n] + uint32(b), 0x81}, api.Fail{})
		}
	}
}

// Each window laid by each index, from either mode: it is active then, and may
// be quoted from; the other ones, and the static ones, are as they were.
func TestP141LaidByIndexes(t *testing.T) {
	for n := range 8 {
		for x := range 256 {
			offset, ok := indexed(byte(x))
			for _, lay := range []string{one(byte(0x18+n), byte(x)), "\x0F" + one(byte(0xE8+n), byte(x))} {
				if !ok {
					hold(t, "\x41"+lay+"\x80", []uint32{0x41}, form(len(lay)))
					continue
				}
				s := lay + "\x80\xFF\x41"
				want := []uint32{offset, offset + 0x7F, 0x41}
				for k := range 8 {
					s += one(byte(k+1), 0x80, byte(k+1), 0x01, 0x81)
					there := dynamics[k]
					if k == n {
						there = offset
					}
					want = append(want, there, statics[k]+1, offset+1)
				}
				hold(t, s, want, api.Fail{})
			}
		}
	}
}

// Each window laid by two bytes, all of them, from either mode.
func TestP141LaidByTwoBytes(t *testing.T) {
	for h := range 256 {
		for l := range 256 {
			n, offset := extended(byte(h), byte(l))
			lay := one(byte(h), byte(l)) + "\x80\xFF" + one(byte(0x10+(n+1)%8)) + "\x81" + one(byte(n+1)) + "\x82\x81" + one(byte(0x10+n)) + "\x83"
			next := dynamics[(n+1)%8] + 1
			want := []uint32{offset, offset + 0x7F, next, offset + 2, next, offset + 3}
			hold(t, "\x0B"+lay, want, api.Fail{})
			hold(t, "\x0F\xF1"+lay, want, api.Fail{})
		}
	}
}

// A window that is laid anew, or that another one is active behind, is as it was
// laid last.
func TestP141LaidAnew(t *testing.T) {
	s := "\x1A\x05\x80\x1A\xFB\x80" + "\x0B\x40\x02\x80" + "\x13\x80\x12\x80\x03\x81" + "\x1C\x05\x81\x12\x82" + "\x0F\xEA\x06\x83\x0F\x41\x42\xE2\x84"
	want := []uint32{0x280, 0x370, 0x10100, 0x600, 0x10100, 0x10101, 0x281, 0x10102, 0x303, 0x4142, 0x304}
	hold(t, s, want, api.Fail{})
	hold(t, s+"\x0B\x00\x00"+"\x12\x85\x10\x85", append(want, 0x305, 0x10005), api.Fail{})
}

// The modes are told by what is read in them; a window is active still behind
// the Unicode mode only if it is asked for.
func TestP141Modes(t *testing.T) {
	for n := range 8 {
		for m := range 8 {
			s := one(byte(0x10+n)) + "\x80\x0F\x80\x80" + one(byte(0xE0+m)) + "\x80\x41\x0F\x41\x41"
			hold(t, s, []uint32{dynamics[n], 0x8080, dynamics[m], 0x41, 0x4141}, api.Fail{})
		}
	}
}

// pairs: both units of 1F602, in all ways in which they may stand side by side.
var pairs = []struct{ mode, first, second string }{
	{"", "\x0E\xD8\x3D", "\x0E\xDE\x02"},
	{"\x0F", "\xD8\x3D", "\xDE\x02"},
	{"\x0F", "\xF0\xD8\x3D", "\xDE\x02"},
	{"\x0F", "\xD8\x3D", "\xF0\xDE\x02"},
	{"\x0F", "\xF0\xD8\x3D", "\xF0\xDE\x02"},
}

func TestP141Pairs(t *testing.T) {
	for _, x := range pairs {
		s := x.mode + x.first + x.second
		hold(t, s, []uint32{0x1F602}, api.Fail{})
		hold(t, s+x.first+x.second, []uint32{0x1F602, 0x1F602}, api.Fail{})
		for i := len(x.mode) + 1; i < len(s); i++ {
			hold(t, s[:i], nil, cut(i))
			hold(t, s+s[len(x.mode):i], []uint32{0x1F602}, cut(len(s)+i-len(x.mode)))
		}
	}
}

// All pairs of units, quoted and not.
func TestP141AllPairs(t *testing.T) {
	for _, x := range []struct{ mode, first, second string }{{"", "\x0E", "\x0E"}, {"\x0F", "", ""}, {"\x0F", "\xF0", "\xF0"}, {"\x0F", "\xF0", ""}, {"\x0F", "", "\xF0"}} {
		t.Run(fmt.Sprintf("% X,% X,% X", x.mode, x.first, x.second), func(t *testing.T) {
			t.Parallel()
			var s strings.Builder
			s.WriteString(x.mode)
			for a := 0xD800; a < 0xDC00; a++ {
				for b := 0xDC00; b < 0xE000; b++ {
					s.WriteString(x.first + both(a) + x.second + both(b))
				}
			}
			l, f := read(s.String())
			if len(l) != 0x100000 || f != (api.Fail{}) {
				t.Fatal(len(l), f)
			}
			for i, c := range l {
				if c != uint32(0x10000+i) {
					t.Fatalf("%X, not %X", c, 0x10000+i)
				}
			}
		})
	}
}

// All units that are scalars, in the three ways in which they may stand.
func TestP141AllUnits(t *testing.T) {
	for u := range 0x10000 {
		first, second := u/0x400 == 0x36, u/0x400 == 0x37
		for _, mark := range []string{"\x0E", "\x0F\xF0", "\x0F"} {
			high := u >> 8
			if mark == "\x0F" && high >= 0xE0 && high <= 0xF2 {
				continue
			}
			s := mark + both(u)
			switch {
			case first:
				hold(t, s, nil, cut(len(s)))
			case second:
				hold(t, s, nil, form(len(mark)))
			default:
				hold(t, s, []uint32{uint32(u)}, api.Fail{})
			}
		}
	}
}

// Behind a first unit every byte is wrong that begins no second one; and the
// first byte of a unit, where that unit may not stand.
func TestP142BehindAFirstUnit(t *testing.T) {
	for _, x := range pairs {
		begun := "\x41" + x.mode + x.first
		for b := range 256 {
			s := begun + one(byte(b))
			switch {
			case b == 0x0E && x.mode == "", b == 0xF0 && x.mode != "":
				hold(t, s, []uint32{0x41}, cut(len(s)))
				for a := range 256 {
					if a/4 == 0x37 {
						hold(t, s+one(byte(a)), []uint32{0x41}, cut(len(s)+1))
						continue
					}
					hold(t, s+one(byte(a)), []uint32{0x41}, form(len(s)))
				}
			case b/4 == 0x37 && x.mode != "":
				hold(t, s, []uint32{0x41}, cut(len(s)))
				hold(t, s+"\x05", []uint32{0x41, 0x1F405 + uint32(b-0xDC)*0x100}, api.Fail{})
			default:
				hold(t, s, []uint32{0x41}, form(len(begun)))
			}
		}
	}
}

// Any part but a second unit is wrong with its first byte; even one that tells
// nothing, and one that would change the mode.
func TestP142NoOtherPartBetween(t *testing.T) {
	for _, x := range pairs {
		between := []string{"\x41", "\x80", "\x01\x20", "\x08\x80", "\x0B\x00\x00", "\x0F", "\x10", "\x17", "\x18\x05", "\x0C", "\x0D", "\x00"}
		if x.mode != "" {
			between = []string{"\x41\x42", "\xD8\x3D", "\xE0", "\xE7", "\xE8\x05", "\xEF\x05", "\xF1\x00\x00", "\xF2", "\xF3\x00", "\xFF\xFF", "\x0E\xDE\x02"}
		}
		for _, part := range between {
			hold(t, x.mode+x.first+part+x.second, nil, form(len(x.mode+x.first)))
		}
	}
	// A quoted unit is wrong with its own first byte, not with the one ahead.
	for _, x := range pairs {
		mark := "\xF0"
		if x.mode == "" {
			mark = "\x0E"
		}
		for _, u := range []string{"\x41\x42", "\xD8\x3D", "\xE0\x00", "\xDB\xDC"} {
			hold(t, x.mode+x.first+mark+u+x.second, nil, form(len(x.mode+x.first)+1))
		}
	}
}

// A second unit is wrong wherever no first one is just ahead.
func TestP142SecondUnitsAlone(t *testing.T) {
	ahead := []struct {
		s string
		l []uint32
	}{
		{"", nil}, {"\x41", []uint32{0x41}}, {"\x0E\x41\x42", []uint32{0x4142}}, {"\x12", nil}, {"\x18\x05", nil}, {"\x0B\x00\x00", nil},
		{"\x01\xD8", []uint32{0xD8}}, {"\xD8", []uint32{0xD8}}, {"\x0E\xD8\x3D\x0E\xDE\x02", []uint32{0x1F602}}, {"\x0F\xE1", nil},
	}
	for b := 0xDC; b <= 0xDF; b++ {
		for _, x := range ahead {
			hold(t, x.s+"\x0E"+one(byte(b))+"\x41", x.l, form(len(x.s)+1))
			hold(t, x.s+"\x0F\xF0"+one(byte(b))+"\x41", x.l, form(len(x.s)+2))
			hold(t, x.s+"\x0F"+one(byte(b))+"\x41", x.l, form(len(x.s)+1))
			hold(t, x.s+"\x0F\xD8\x3D\xDE\x02"+one(byte(b))+"\x41", append(slices.Clone(x.l), 0x1F602), form(len(x.s)+5))
			hold(t, x.s+"\x0F\x41\x42\xF0"+one(byte(b))+"\x41", append(slices.Clone(x.l), 0x4142), form(len(x.s)+4))
		}
	}
}

// states: texts that lead to each state in which a byte is looked at.
var states = []string{
	"", "\x0F", "\x0E\xD8\x3D", "\x0F\xD8\x3D", "\x0F\xF0\xD8\x3D", "\x0E", "\x0F\xF0", "\x0E\xD8\x3D\x0E", "\x0F\xD8\x3D\xF0",
	"\x01", "\x0B", "\x0B\x41", "\x18", "\x0F\xE8", "\x0F\xF1", "\x0F\xF1\x41", "\x0F\x41", "\x0F\xD8", "\x0E\xD8", "\x0F\xF0\xD8",
	"\x0F\xD8\x3D\xDE", "\x0F\xD8\x3D\xF0\xDE", "\x0E\xD8\x3D\x0E\xDE", "\x12", "\x0F\xE5",
}

// All texts of one byte, and of two, and some of three, behind each state.
func TestP141ShortTexts(t *testing.T) {
	for i, ahead := range states {
		t.Run(fmt.Sprintf("% X", ahead), func(t *testing.T) {
			t.Parallel()
			for a := range 256 {
				check(t, ahead+one(byte(a)))
				for b := range 256 {
					check(t, ahead+one(byte(a), byte(b)))
					if i < 4 && b%3 == 0 {
						check(t, ahead+one(byte(a), byte(b), often[(a+b/3)%len(often)]))
					}
				}
			}
		})
	}
}

func TestP141MixedTexts(t *testing.T) {
	r := source(141)
	ways := map[api.Errno]int{}
	for range 60000 {
		ways[check(t, r.text(12))]++
	}
	if ways[api.OK] < 3000 || ways[api.ErrForm] < 3000 || ways[api.ErrCut] < 3000 {
		t.Error(ways)
	}
}

// broken: texts that go wrong at a byte, and where.
var broken = []struct {
	s  string
	at int
}{
	{"\x0C", 0}, {"\x0F\xF2", 1}, {"\x18\x00", 1}, {"\x1F\xA8", 1}, {"\x1B\xF8", 1}, {"\x0F\xE8\x00", 2}, {"\x0F\xEF\xC0", 2},
	{"\x0E\xDC", 1}, {"\x0E\xDF", 1}, {"\x0F\xDC", 1}, {"\x0F\xF0\xDE", 2},
	{"\x0E\xD8\x3D\x41", 3}, {"\x0E\xD8\x3D\x0F", 3}, {"\x0E\xD8\x3D\xDC", 3}, {"\x0E\xD8\x3D\x0E\xD8", 4}, {"\x0E\xD8\x3D\x0E\xE0", 4},
	{"\x0F\xD8\x3D\x41", 3}, {"\x0F\xD8\x3D\xE0", 3}, {"\x0F\xD8\x3D\xD8", 3}, {"\x0F\xD8\x3D\xF0\xDB", 4}, {"\x0F\xD8\x3D\xF2", 3},
}

// cutOff: texts that end within a part, or within a pair.
var cutOff = []string{
	"\x01", "\x08", "\x0B", "\x0B\x00", "\x0E", "\x0E\x41", "\x18", "\x1F", "\x0F\x00", "\x0F\xDB", "\x0F\xFF", "\x0F\xE8", "\x0F\xF0", "\x0F\xF0\x41", "\x0F\xF1", "\x0F\xF1\x00",
	"\x0E\xD8", "\x0E\xD8\x3D", "\x0E\xD8\x3D\x0E", "\x0E\xD8\x3D\x0E\xDE",
	"\x0F\xD8", "\x0F\xD8\x3D", "\x0F\xD8\x3D\xDE", "\x0F\xD8\x3D\xF0", "\x0F\xD8\x3D\xF0\xDE", "\x0F\xF0\xD8", "\x0F\xF0\xD8\x3D", "\x0F\xF0\xD8\x3D\xDE",
}

// What is complete ahead of a wrong byte is told, in the call that fails, too.
func TestP141Broken(t *testing.T) {
	for _, x := range broken {
		hold(t, x.s, nil, form(x.at))
		hold(t, x.s+"\x41\x42\x43", nil, form(x.at))
		hold(t, "\x12\x41\xB0\x0E\xFE\xFF"+x.s+"\x41", []uint32{0x41, 0x430, 0xFEFF}, form(x.at+6))
	}
}

func TestP141Cut(t *testing.T) {
	for _, s := range cutOff {
		hold(t, s, nil, cut(len(s)))
		hold(t, "\x12\x41\xB0\x0E\xFE\xFF"+s, []uint32{0x41, 0x430, 0xFEFF}, cut(len(s)+6))
	}
}

// texts: right ones, such as are cut off, and such as go wrong.
func texts() []string {
	l := []string{"ABC", "\x12\x9C\xBE\x41\xC1", "\x08\x00\x1B\x4C\xEA\x16\xCA\xD3\x94\x0F\x53\xEF\x61\x1B\xE5\x84"}
	for _, x := range known {
		if len(x.s) <= 14 {
			l = append(l, x.s)
		}
	}
	for _, x := range broken {
		l = append(l, x.s+"\x41\x42", "\x12\xB0\x0B\x00\x00\x80"+x.s)
	}
	for _, s := range cutOff {
		l = append(l, "\x12\xB0\x41"+s)
	}
	return l
}

// feedParts hands a text to a decoder in parts that end at the given places,
// each one so often till nothing is eaten of it any more, with the rooms in
// turn; and holds each answer against the facts. It tells all that was told.
func feedParts(t *testing.T, s string, f told, ends []int, turn []int) []uint32 {
	t.Helper()
	d := expand.NewDecoder()
	var all []uint32
	at, calls := 0, 0
	for _, end := range append(ends, len(s)) {
		for more := true; more; calls++ {
			room := turn[calls%len(turn)]
			var want []uint32
			to, failed := at, false
			for to < end && len(want) < room && !failed {
				if failed = to == f.bad; !failed {
					if c, ok := f.complete[to]; ok {
						want = append(want, c)
					}
					to++
				}
			}
			failed = failed || d.Fail() != api.Fail{}
			n, l := d.Feed(s[at:end], room)
			if n != to-at || !slices.Equal(l, want) {
				t.Fatalf("% X from %d to %d, room %d: %d, %X, not %d, %X", s, at, end, room, n, l, to-at, want)
			}
			if got := decoderOf(d); failed && got != (decoder{f.bad, form(f.bad), true}) || !failed && got != (decoder{at: to}) {
				t.Fatalf("% X up to %d: %v", s, to, got)
			}
			all = append(all, l...)
			more = at < end && !failed && (n > 0 || room < 1)
			at = to
		}
	}
	d.End()
	if want := (decoder{f.bad, f.end(s), true}); decoderOf(d) != want {
		t.Fatalf("% X, and End: %v, not %v", s, decoderOf(d), want)
	}
	return all
}

// turns: rooms that come in turn.
var turns = [][]int{{math.MaxInt}, {1}, {2}, {3}, {0, 1}, {-1, 2, 1}, {1, 5, math.MinInt}}

func TestP141PartsAndRooms(t *testing.T) {
	for _, s := range texts() {
		whole, _ := read(s)
		f := facts(s)
		for i := range len(s) + 1 {
			for j := i; j <= len(s); j++ {
				for _, turn := range turns {
					if got := feedParts(t, s, f, []int{i, j}, turn); !slices.Equal(got, whole) {
						t.Fatalf("% X, cut at %d and %d: %X, not %X", s, i, j, got, whole)
					}
				}
			}
		}
	}
}

func TestP141AByteAtATime(t *testing.T) {
	r := source(1411)
	for i := range 3000 {
		s := r.text(20)
		if l := texts(); i < len(l) {
			s = l[i]
		}
		var ends []int
		for i := range len(s) {
			ends = append(ends, i)
		}
		whole, _ := read(s)
		for _, turn := range turns {
			if got := feedParts(t, s, facts(s), ends, turn); !slices.Equal(got, whole) {
				t.Fatalf("% X: %X, not %X", s, got, whole)
			}
		}
	}
}

// Bytes of a scalar that isn't complete, and parts that tell nothing, take no
// room; with no room left they aren't looked at.
func TestP141RoomIsOfScalars(t *testing.T) {
	d := expand.NewDecoder()
	for i, b := range []string{"\x0E", "\xD8", "\x3D", "\x0E", "\xDE"} {
		if n, l := d.Feed(b, 1); n != 1 || len(l) != 0 || decoderOf(d) != (decoder{at: i + 1}) {
			t.Error(i, n, l, decoderOf(d))
		}
	}
	if n, l := d.Feed("\x00\x12", 1); n != 1 || !slices.Equal(l, []uint32{0x1F600}) {
		t.Error(n, l)
	}
	if n, l := d.Feed("\x12\x18\x05\x0F\xE0\x0F\xF1\x00\x00\x13\x81\x0F", 1); n != 11 || !slices.Equal(l, []uint32{0x601}) || decoderOf(d) != (decoder{at: 17}) {
		t.Error(n, l, decoderOf(d))
	}
	if n, l := d.Feed("\x0F\x0F", 0); n != 0 || len(l) != 0 || d.At() != 17 {
		t.Error(n, l)
	}
	if n, l := d.Feed("\x0F\x12\x34\x56\x78\xE1\xC0\xC1", 3); n != 7 || !slices.Equal(l, []uint32{0x1234, 0x5678, 0x100}) || decoderOf(d) != (decoder{at: 24}) {
		t.Error(n, l, decoderOf(d))
	}
}

// Without room no byte is looked at, not even a wrong one.
func TestP141NoRoom(t *testing.T) {
	for _, s := range append(texts(), "\x0C\x0C", "\x0F\x0F") {
		for _, room := range []int{0, -1, math.MinInt} {
			d := expand.NewDecoder()
			if n, l := d.Feed(s, room); n != 0 || len(l) != 0 || decoderOf(d) != (decoder{}) {
				t.Errorf("% X, room %d: %d, %X, %v", s, room, n, l, decoderOf(d))
			}
		}
	}
	d := expand.NewDecoder()
	if n, l := d.Feed("\x41\x0C", 1); n != 1 || !slices.Equal(l, []uint32{0x41}) || decoderOf(d) != (decoder{at: 1}) {
		t.Error("behind the last scalar that there is room for:", n, l, decoderOf(d))
	}
	if n, l := d.Feed("\x0C", 0); n != 0 || len(l) != 0 || decoderOf(d) != (decoder{at: 1}) {
		t.Error("without room:", n, l, decoderOf(d))
	}
	if n, l := d.Feed("\x0C", 1); n != 0 || len(l) != 0 || decoderOf(d) != (decoder{1, form(1), true}) {
		t.Error("with room:", n, l, decoderOf(d))
	}
}

// stays: whatever is called, such a decoder is as it was, and tells nothing.
func stays(t *testing.T, d *expand.Decoder, how string) {
	t.Helper()
	was := decoderOf(d)
	for range 2 {
		for _, s := range []string{"", "\x41", "\x80", "\x05", "\x0E\xDE\x00", "\xDE\x00", "\xF0\xDE\x00", "\x0F", "\xE0\x41", "\x0C", "\xF2"} {
			for _, room := range rooms {
				if n, l := d.Feed(s, room); n != 0 || len(l) != 0 || decoderOf(d) != was {
					t.Errorf("%s, then % X: %d, %X, %v", how, s, n, l, decoderOf(d))
				}
			}
		}
		d.End()
		if decoderOf(d) != was {
			t.Errorf("%s, then End: %v, not %v", how, decoderOf(d), was)
		}
	}
}

func TestP141BehindAFailure(t *testing.T) {
	for _, x := range broken {
		d := expand.NewDecoder()
		d.Feed("\x41"+x.s, 9)
		if decoderOf(d) != (decoder{x.at + 1, form(x.at + 1), true}) {
			t.Errorf("% X: %v", x.s, decoderOf(d))
		}
		stays(t, d, fmt.Sprintf("41 % X", x.s))
	}
	for _, s := range cutOff {
		d := expand.NewDecoder()
		d.Feed("\x41"+s, 9)
		d.End()
		if at := len(s) + 1; decoderOf(d) != (decoder{at, cut(at), true}) {
			t.Errorf("% X: %v", s, decoderOf(d))
		}
		stays(t, d, fmt.Sprintf("41 % X, ended", s))
	}
}

func TestP141BehindAnEnd(t *testing.T) {
	for _, x := range known {
		d := expand.NewDecoder()
		d.Feed(x.s, 99)
		d.End()
		if decoderOf(d) != (decoder{at: len(x.s), done: true}) {
			t.Errorf("% X: %v", x.s, decoderOf(d))
		}
		stays(t, d, fmt.Sprintf("% X, ended", x.s))
	}
}

// What one call told isn't touched by the next ones, nor they by what is done to it.
func TestP141WhatIsToldIsNewMemory(t *testing.T) {
	d := expand.NewDecoder()
	_, first := d.Feed("ABCDE", 2)
	was := slices.Clone(first)
	_, second := d.Feed("CDE", 2)
	if !slices.Equal(first, was) || !slices.Equal(second, []uint32{'C', 'D'}) {
		t.Error(first, second)
	}
	first[0] = 7
	_ = append(first, 8, 9)
	second[1] = 6
	_ = append(second[:0], 5, 5, 5, 5)
	if _, third := d.Feed("E\x0E\xFE\xFF", 2); !slices.Equal(third, []uint32{'E', 0xFEFF}) {
		t.Error(third)
	}
	if first[1] != 'B' {
		t.Error(first)
	}
}

func TestP141DecodersAreForThemselves(t *testing.T) {
	a, b := expand.NewDecoder(), expand.NewDecoder()
	a.Feed("\x1A\x05\x0E\xD8", 9)
	b.Feed("\x0F\xF1\x40", 9)
	a.Feed("\x3D", 9)
	if n, l := b.Feed("\x01\x81", 9); n != 2 || !slices.Equal(l, []uint32{0x10081}) {
		t.Error(n, l)
	}
	if n, l := a.Feed("\x0E\xDE\x00\x80", 9); n != 4 || !slices.Equal(l, []uint32{0x1F600, 0x280}) {
		t.Error(n, l)
	}
	if _, l := b.Feed("\x10\x80\x12\x80\x0F", 9); !slices.Equal(l, []uint32{0x80, 0x10080}) {
		t.Error(l)
	}
	if _, l := a.Feed("\x41\x10\x80\x12\x81", 9); !slices.Equal(l, []uint32{0x41, 0x80, 0x281}) {
		t.Error(l)
	}
	b.Feed("\xF2", 9)
	if decoderOf(a) != (decoder{at: 14}) || decoderOf(b) != (decoder{10, form(10), true}) {
		t.Error(decoderOf(a), decoderOf(b))
	}
	a.End()
	if decoderOf(a) != (decoder{at: 14, done: true}) || decoderOf(expand.NewDecoder()) != (decoder{}) {
		t.Error(decoderOf(a))
	}
}

// A long text in a single call, and part by part.
func TestP141LongTexts(t *testing.T) {
	s := strings.Repeat("\x12\xB0\x41\x0E\xFE\xFF\x0F\xD8\x3D\xDE\x00\xF1\x21\xEC\x81", 50000)
	each := []uint32{0x430, 0x41, 0xFEFF, 0x1F600, 0x1F601}
	for _, x := range []struct{ part, room int }{{len(s), math.MaxInt}, {1, 1}, {4096, 4096}, {len(s), 1000}} {
		d := expand.NewDecoder()
		var all []uint32
		for at := 0; at < len(s); {
			n, l := d.Feed(s[at:min(at+x.part, len(s))], x.room)
			all = append(all, l...)
			at += n
			if n == 0 {
				t.Fatal("nothing is eaten at", at)
			}
		}
		d.End()
		if !slices.Equal(all, slices.Repeat(each, 50000)) || decoderOf(d) != (decoder{at: len(s), done: true}) {
			t.Error(len(all), decoderOf(d))
		}
	}
}

// plain: bytes that denote themselves.
func plain() string {
	s := []byte{0, 9, 0xA, 0xD}
	for b := byte(0x20); b <= 0x7F; b++ {
		s = append(s, b)
	}
	return string(s)
}

func TestP143PlainTextIsItself(t *testing.T) {
	bytes := plain()
	r := source(143)
	same := func(s string) {
		t.Helper()
		var want []uint32
		for i := range len(s) {
			want = append(want, uint32(s[i]))
		}
		hold(t, s, want, api.Fail{})
	}
	same(bytes)
	for i := range len(bytes) {
		for j := range len(bytes) {
			same(one(bytes[i], bytes[j]))
		}
	}
	for range 1000 {
		s := make([]byte, r.below(200))
		for i := range s {
			s[i] = bytes[r.below(len(bytes))]
		}
		same(string(s))
	}
}

// like16: behind 0F, a text tells what big UTF-16 does, and ends as it does.
func like16(t *testing.T, s string) {
	t.Helper()
	for i := 0; i < len(s); i += 2 {
		if 0xE0 <= s[i] && s[i] <= 0xF2 {
			return
		}
	}
	d := uni16.NewDecoder(true)
	_, want := d.Feed(s, math.MaxInt)
	d.End()
	f := d.Fail()
	if f.Err != api.OK {
		f.At++
	}
	hold(t, "\x0F"+s, want, f)
}

func TestP143LikeUTF16(t *testing.T) {
	for a := range 256 {
		like16(t, one(byte(a)))
		for b := range 256 {
			like16(t, one(byte(a), byte(b)))
			like16(t, "\xD8\x3D"+one(byte(a), byte(b)))
			like16(t, one(0xDB, byte(a), byte(b)))
			like16(t, "\x41\x42"+one(byte(a), byte(b))+"\xDE\x00\x41\x42")
		}
	}
	r := source(1431)
	for range 20000 {
		s := []byte(r.text(20))
		for i := 0; i < len(s); i += 2 {
			if r.below(3) == 0 {
				s[i] = byte(0xD8 + r.below(8))
			}
		}
		like16(t, string(s))
	}
}

// Ahead of a wrong byte, or an end, there is a text that goes on so: it denotes
// what was told first.
func TestP143GoesOn(t *testing.T) {
	r := source(1432)
	try := func(s string) {
		d := expand.NewDecoder()
		n, l := d.Feed(s, math.MaxInt)
		found := slices.ContainsFunc(onward, func(more string) bool {
			all, f := read(s[:n] + more)
			return f == api.Fail{} && len(all) >= len(l) && slices.Equal(all[:len(l)], l)
		})
		if !found {
			t.Fatalf("% X, ahead of %d", s, n)
		}
	}
	for _, s := range append(states, texts()...) {
		for b := range 256 {
			try(s + one(byte(b)))
		}
	}
	for range 20000 {
		try(r.text(20))
	}
}

// What is told is a scalar, always.
func TestP141ScalarsAlone(t *testing.T) {
	r := source(1412)
	for range 100000 {
		s := r.text(30)
		if l, _ := read(s); scalar.First(l...) != -1 {
			t.Fatalf("% X: %X", s, l)
		}
	}
}

// The chapter's words as these tests have them: what they rest on.
func TestWords(t *testing.T) {
	for _, x := range broken {
		if f := facts(x.s); f.end(x.s) != form(x.at) || len(f.complete) != 0 {
			t.Errorf("% X: %v, %v", x.s, f, f.end(x.s))
		}
	}
	for _, s := range cutOff {
		if f := facts(s); f.end(s) != cut(len(s)) || len(f.complete) != 0 {
			t.Errorf("% X: %v, %v", s, f, f.end(s))
		}
	}
	for _, rows := range [][]row{singleRows, unicodeRows} {
		n := 0
		for _, r := range rows {
			n += int(r.to) - int(r.from) + 1
		}
		if n != 255 {
			t.Error(n, "first bytes, not all but one")
		}
	}
}
