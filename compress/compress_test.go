package compress_test

import (
	"fmt"
	"math"
	"slices"
	"strings"
	"testing"

	"pilcrow/api"
	"pilcrow/compress"
	"pilcrow/expand"
	"pilcrow/scalar"
)

// nothing is what is behind the last scalar.
const nothing = -1

var statics = [8]uint32{0, 0x80, 0x100, 0x300, 0x2000, 0x2080, 0x2100, 0x3000}

// state is what a scalar's bytes hang on, by the chapter's words.
type state struct {
	plain   bool
	wide    bool
	place   int
	active  int
	offsets [8]uint32
	used    []int // the windows, the one that was used last ahead of the others
}

func begin(plain bool) *state {
	return &state{
		plain:   plain,
		offsets: [8]uint32{0x80, 0xC0, 0x400, 0x600, 0x900, 0x3040, 0x30A0, 0xFF00},
		used:    []int{0, 1, 2, 3, 4, 5, 6, 7},
	}
}

// in: does the window of this offset hold it?
func in(offset uint32, d int) bool { return int(offset) <= d && d < int(offset)+0x80 }

func (st *state) near(c int) (int, bool) {
	for n, offset := range st.offsets {
		if in(offset, c) {
			return n, true
		}
	}
	return 0, false
}

func (st *state) touch(n int) {
	i := slices.Index(st.used, n)
	st.used = slices.Insert(slices.Delete(st.used, i, i+1), 0, n)
}

func passing(c int) bool {
	return c == 0 || c == 9 || c == 0xA || c == 0xD || 0x20 <= c && c <= 0x7F
}

func (st *state) easy(c int) bool {
	_, near := st.near(c)
	return passing(c) || c < 0x20 || near
}

func (st *state) soft(d int) bool { return d == nothing || st.easy(d) }

// indexed: what an index stands for, by layer 13's chapter; 0, if nothing.
func indexed(x uint32) uint32 {
	switch {
	case 0x01 <= x && x <= 0x67:
		return 0x80 * x
	case 0x68 <= x && x <= 0xA7:
		return 0x80*x + 0xAC00
	case x >= 0xF9:
		return []uint32{0xC0, 0x250, 0x370, 0x530, 0x3040, 0x30A0, 0xFF60}[x-0xF9]
	}
	return 0
}

// indexes: those of all numbers below 10000; 0, if there is none. Of several,
// the first of F9 to FF is meant.
var indexes = func() [0x10000]byte {
	var all [0x10000]byte
	for x := range uint32(0x100) {
		x = []uint32{x, 0x1F8 - x}[x/0xF9]
		for c := indexed(x); c > 0 && in(indexed(x), int(c)); c++ {
			all[c] = byte(x)
		}
	}
	return all
}()

// index: a scalar's index, and what it stands for.
func index(c uint32) (byte, uint32, bool) {
	if c >= 0x10000 || indexes[c] == 0 {
		return 0, 0, false
	}
	return indexes[c], indexed(uint32(indexes[c])), true
}

// own: the offset of a scalar's own window, if it has one.
func own(c uint32) (uint32, bool) {
	if c >= 0x10000 {
		return c - c%0x80, true
	}
	_, offset, ok := index(c)
	return offset, ok
}

func twins(c uint32, d int) bool {
	offset, ok := own(c)
	return ok && in(offset, d)
}

// hex: bytes as a text.
func hex(b ...uint32) string {
	s := make([]byte, len(b))
	for i := range b {
		s[i] = byte(b[i])
	}
	return string(s)
}

// lay: what the rules 7 of the single mode and 2 of the Unicode mode say.
func (st *state) lay(c, byIndex, byTwo uint32) string {
	n := st.used[7]
	offset, _ := own(c)
	st.offsets[n] = offset
	st.touch(n)
	st.active, st.wide = n, false
	last := 0x80 + c - offset
	if c < 0x10000 {
		x, _, _ := index(c)
		return hex(byIndex+uint32(n), uint32(x), last)
	}
	k := (c - 0x10000) / 0x80
	return hex(byTwo, uint32(n)*0x20+k/0x100, k%0x100, last)
}

// short: the rules 2 to 4 of the single mode.
func (st *state) short(c uint32) (string, bool) {
	switch {
	case passing(int(c)):
		return hex(c), true
	case c < 0x20:
		return hex(1, c), true
	case in(st.offsets[st.active], int(c)):
		return hex(0x80 + c - st.offsets[st.active]), true
	}
	return "", false
}

// next: the bytes of a scalar, and of what is behind it.
func (st *state) next(c uint32, d int) string {
	st.place++
	switch {
	case st.place == 1 && c == 0xFEFF:
		return "\x0E\xFE\xFF"
	case st.wide && !st.plain:
		return st.inUnicode(c, d)
	case st.wide:
		return st.units(c)
	}
	if s, ok := st.short(c); ok {
		return s
	}
	if st.plain {
		st.wide = true
		return "\x0F" + st.units(c)
	}
	return st.inSingle(c, d)
}

// inSingle: the single mode's rules from 5 on.
func (st *state) inSingle(c uint32, d int) string {
	if n, ok := st.near(int(c)); ok {
		st.touch(n)
		last := 0x80 + c - st.offsets[n]
		if in(st.offsets[n], d) {
			st.active = n
			return hex(0x10+uint32(n), last)
		}
		return hex(1+uint32(n), last)
	}
	for n := uint32(1); n < 8; n++ {
		if !twins(c, d) && in(statics[n], int(c)) {
			return hex(1+n, c-statics[n])
		}
	}
	soft := st.soft(d)
	switch {
	case twins(c, d), c >= 0x10000 && soft:
		return st.lay(c, 0x18, 0x0B)
	case c < 0x10000 && (soft || 0xE000 <= c && c <= 0xF2FF):
		return hex(0x0E, c/0x100, c%0x100)
	}
	st.wide = true
	return "\x0F" + st.units(c)
}

func (st *state) inUnicode(c uint32, d int) string {
	if st.easy(int(c)) && st.soft(d) {
		n, ok := st.near(int(c))
		if !ok {
			n = st.active
		}
		st.touch(n)
		st.active, st.wide = n, false
		s, _ := st.short(c)
		return hex(0xE0+uint32(n)) + s
	}
	if twins(c, d) {
		return st.lay(c, 0xE8, 0xF1)
	}
	return st.units(c)
}

// units: the Unicode mode's rule 3.
func (st *state) units(c uint32) string {
	switch {
	case c >= 0x10000:
		a, b := 0xD800+(c-0x10000)/0x400, 0xDC00+(c-0x10000)%0x400
		return hex(a/0x100, a%0x100, b/0x100, b%0x100)
	case 0xE0 <= c/0x100 && c/0x100 <= 0xF2:
		return hex(0xF0, c/0x100, c%0x100)
	}
	return hex(c/0x100, c%0x100)
}

// each: the bytes of each scalar of a list, by the chapter's words.
func each(plain bool, l []uint32) []string {
	st := begin(plain)
	var out []string
	for i, c := range l {
		d := nothing
		if i+1 < len(l) {
			d = int(l[i+1])
		}
		out = append(out, st.next(c, d))
	}
	return out
}

// text: those of the whole list.
func text(plain bool, l []uint32) string { return strings.Join(each(plain, l), "") }

// isScalar: what layer 1's chapter says that a scalar is.
func isScalar(c uint32) bool { return c <= 0xD7FF || c >= 0xE000 && c <= 0x10FFFF }

// eachScalar calls f with all of them, the least one first.
func eachScalar(f func(c uint32)) {
	for c := range uint32(0x110000) {
		if isScalar(c) {
			f(c)
		}
	}
}

// mostScalars calls f with all of them that the rules tell apart: beyond 10000
// with some at both ends, and few of those between.
func mostScalars(f func(c uint32)) {
	eachScalar(func(c uint32) {
		if c < 0x10800 || c%61 == 0 || c >= 0x10FE00 {
			f(c)
		}
	})
}

// encoder is all that an encoder tells of itself.
type encoder struct {
	at   int
	fail api.Fail
	done bool
	kept int
}

func encoderOf(e *compress.Encoder) encoder { return encoder{e.At(), e.Fail(), e.Done(), e.Kept()} }

// wrong: what goes wrong, and where.
func wrong(at int) api.Fail { return api.Fail{Err: api.ErrScalar, At: at} }

// write: what is made of a whole list, and how it ends.
func write(plain bool, l []uint32) (string, api.Fail) {
	e := compress.NewEncoder(plain)
	var all strings.Builder
	_, s := e.Feed(l, math.MaxInt)
	all.WriteString(s)
	e.End()
	_, s = e.Feed(nil, math.MaxInt)
	all.WriteString(s)
	return all.String(), e.Fail()
}

// read: what a text denotes by layer 14.
func read(s string) ([]uint32, api.Fail) {
	d := expand.NewDecoder()
	_, l := d.Feed(s, math.MaxInt)
	d.End()
	return l, d.Fail()
}

// most: how many bytes a list may take, by P15.2.
func most(plain bool, l []uint32) int {
	units := scalar.Units(l...)
	if !plain {
		return 3 * units
	}
	n := 2*units + 2
	for _, c := range l {
		if 0xE000 <= c && c <= 0xF2FF {
			n++
		}
	}
	return n
}

// hold: a list is written as the chapter's words say, within the bound, and read
// as it was.
func hold(t *testing.T, plain bool, l []uint32) {
	t.Helper()
	s, f := write(plain, l)
	if want := text(plain, l); s != want || f != (api.Fail{}) {
		t.Fatalf("plain %t: %X: % X, %v, not % X", plain, l, s, f, want)
	}
	if len(s) > most(plain, l) {
		t.Fatalf("plain %t: %X: % X: more than %d bytes", plain, l, s, most(plain, l))
	}
	if back, f := read(s); !slices.Equal(back, l) || f != (api.Fail{}) {
		t.Fatalf("plain %t: %X: % X, and %X, %v", plain, l, s, back, f)
	}
}

// both: the profiles.
var both = []bool{false, true}

// rooms: below 1, 1, few, more than enough.
var rooms = []int{math.MinInt, -1, 0, 1, 2, 3, 4, 5, 7, 1000, math.MaxInt}

// edges: both ends of each span that the rules name, or that a window has.
var edges = []uint32{
	0, 1, 8, 9, 0xA, 0xB, 0xC, 0xD, 0xE, 0x1F, 0x20, 0x41, 0x7E, 0x7F, 0x80, 0x9F, 0xA0, 0xBF, 0xC0, 0xFF, 0x100, 0x13F, 0x140, 0x17F, 0x180,
	0x24F, 0x250, 0x2CF, 0x2D0, 0x2FF, 0x300, 0x36F, 0x370, 0x37F, 0x380, 0x3EF, 0x3F0, 0x3FF, 0x400, 0x47F, 0x480, 0x52F, 0x530, 0x5AF, 0x5B0,
	0x5FF, 0x600, 0x67F, 0x680, 0x8FF, 0x900, 0x97F, 0x980, 0x1FFF, 0x2000, 0x207F, 0x2080, 0x20FF, 0x2100, 0x217F, 0x2180, 0x2FFF, 0x3000,
	0x303F, 0x3040, 0x307F, 0x3080, 0x309F, 0x30A0, 0x30BF, 0x30C0, 0x311F, 0x3120, 0x33FF, 0x3400, 0x4E00, 0x4E01, 0xABFF, 0xAC00, 0xD7FF,
	0xE000, 0xE07F, 0xE080, 0xF2FF, 0xF300, 0xFE80, 0xFEFE, 0xFEFF, 0xFF00, 0xFF5F, 0xFF60, 0xFF7F, 0xFF80, 0xFFDF, 0xFFE0, 0xFFFF,
	0x10000, 0x1007F, 0x10080, 0x1F600, 0x1F67F, 0xFFFFF, 0x100000, 0x10FF7F, 0x10FF80, 0x10FFFF,
}

// leaders: lists that lead to each mode, with each kind of active window, and
// with windows that were laid.
var leaders = [][]uint32{
	{},
	{0x41},
	{0x430, 0x431},
	{0x100, 0x101},
	{0x3080, 0x3081},
	{0x1F600, 0x1F601},
	{0x2180, 0x2181},
	{0xFEFF},
	{0x4E00, 0x4E01},
	{0x100, 0x101, 0x4E00, 0x4E01},
	{0x1F600, 0x1F601, 0x4E00, 0x4E01},
	{0xFEFF, 0x4E00, 0x4E01},
	slices.Concat(laid(0, 8), []uint32{0x41}),
	slices.Concat(laid(0, 7), []uint32{0x4E00, 0x4E01}),
}

// laid: windows are laid for them, one for each two.
func laid(from, to uint32) []uint32 {
	var l []uint32
	for i := from; i < to; i++ {
		l = append(l, 0x2180+0x80*i, 0x2181+0x80*i)
	}
	return l
}

// source is numbers without any order to be seen, the same in each run.
type source uint64

func (r *source) below(n int) int {
	*r = *r*6364136223846793005 + 1442695040888963407
	return int((uint64(*r) >> 33) % uint64(n))
}

// scalar: one of a few kinds, or of all.
func (r *source) scalar() uint32 {
	spans := [][2]uint32{{0, 0x1F}, {0x20, 0x7F}, {0x80, 0xFF}, {0x100, 0x17F}, {0x370, 0x4FF}, {0x2000, 0x2180}, {0x3000, 0x3130}, {0x4E00, 0x4E80}, {0xE000, 0xFFFF}, {0x10000, 0x10200}, {0x1F600, 0x1F680}}
	switch i := r.below(len(spans) + 3); {
	case i < len(spans):
		return spans[i][0] + uint32(r.below(int(spans[i][1]-spans[i][0])))
	case i > len(spans):
		return edges[r.below(len(edges))]
	}
	c := uint32(r.below(0x110000 - 0x800))
	if c >= 0xD800 {
		c += 0x800
	}
	return c
}

// list: so many at most; now and then the next one is close by.
func (r *source) list(most int) []uint32 {
	l := make([]uint32, r.below(most+1))
	for i := range l {
		l[i] = r.scalar()
		if c := uint32(r.below(0x100)); i > 0 && r.below(3) > 0 && isScalar(l[i-1]^c) {
			l[i] = l[i-1] ^ c
		}
	}
	return l
}

// row is a list, and its text, written out.
type row struct {
	l []uint32
	s string
}

// known: of the single mode; and how it is left.
var known = []row{
	{nil, ""},
	// The document's examples.
	{[]uint32{0xD6, 0x6C}, "\xD6\x6C"},
	{[]uint32{0x41C, 0x43E}, "\x12\x9C\xBE"},
	{[]uint32{0x41C, 0x41}, "\x03\x9C\x41"},
	{[]uint32{0x4E2D, 0x6587}, "\x0F\x4E\x2D\x65\x87"},
	{[]uint32{0x4E2D, 0x41}, "\x0E\x4E\x2D\x41"},
	{[]uint32{0x1F600}, "\x0B\xE1\xEC\x80"},
	{[]uint32{0xFEFF}, "\x0E\xFE\xFF"},
	{[]uint32{0x41C, 0x43E, 0x441}, "\x12\x9C\xBE\xC1"},
	// 1: FEFF.
	{[]uint32{0xFEFF, 0xFEFF}, "\x0E\xFE\xFF\x0E\xFE\xFF"},
	{[]uint32{0xFEFF, 0xFEFF, 0xFEFF}, "\x0E\xFE\xFF\x1F\xA5\xFF\xFF"},
	{[]uint32{0xFEFF, 0xFE80}, "\x0E\xFE\xFF\x0E\xFE\x80"},
	{[]uint32{0xFEFF, 0x4E2D, 0x6587}, "\x0E\xFE\xFF\x0F\x4E\x2D\x65\x87"},
	{[]uint32{0xFEFF, 0x4E2D, 0xFEFF, 0x4E2D}, "\x0E\xFE\xFF\x0F\x4E\x2D\xFE\xFF\x4E\x2D"},
	{[]uint32{0xFEFF, 0xE9, 0x430, 0xFEFF}, "\x0E\xFE\xFF\xE9\x03\xB0\x0E\xFE\xFF"},
	{[]uint32{0x41, 0xFEFF}, "\x41\x0E\xFE\xFF"},
	{[]uint32{0x41, 0xFEFF, 0xFE80}, "\x41\x1F\xA5\xFF\x80"},
	{[]uint32{0x41, 0xFEFF, 0x4E2D}, "\x41\x0F\xFE\xFF\x4E\x2D"},
	// 2 and 3: what passes, and controls.
	{[]uint32{0, 9, 0xA, 0xD, 0x20, 0x7E, 0x7F}, "\x00\x09\x0A\x0D\x20\x7E\x7F"},
	{[]uint32{1, 8, 0xB, 0xC, 0xE, 0x1F}, "\x01\x01\x01\x08\x01\x0B\x01\x0C\x01\x0E\x01\x1F"},
	{[]uint32{1, 0x4E2D, 0x41}, "\x01\x01\x0E\x4E\x2D\x41"},
	// 4: the active window.
	{[]uint32{0x80, 0x9F, 0xA0, 0xFF}, "\x80\x9F\xA0\xFF"},
	{[]uint32{0x430, 0x431, 0x400, 0x47F}, "\x12\xB0\xB1\x80\xFF"},
	{[]uint32{0x100, 0x101, 0xC0, 0xBF}, "\x11\xC0\xC1\x80\x01\xBF"},
	// 5: another dynamic one, once, or from here on.
	{[]uint32{0x100}, "\x02\xC0"},
	{[]uint32{0x100, 0x140}, "\x02\xC0\x03\x40"},
	{[]uint32{0x100, 0x13F}, "\x11\xC0\xFF"},
	{[]uint32{0x100, 0xC0, 0x430}, "\x11\xC0\x80\x03\xB0"},
	{[]uint32{0x400, 0x480, 0x47F, 0x400}, "\x03\x80\x0E\x04\x80\x12\xFF\x80"},
	{[]uint32{0x600, 0x67F, 0x97F, 0x900}, "\x13\x80\xFF\x14\xFF\x80"},
	{[]uint32{0x3040, 0x30BF, 0x30C0, 0x311F}, "\x15\x80\xFF\x16\xA0\xFF"},
	{[]uint32{0x30B0, 0x30C0, 0x41}, "\x06\xF0\x07\xA0\x41"},
	{[]uint32{0x3080, 0x30B0}, "\x15\xC0\xF0"},
	{[]uint32{0xFF00, 0xFF7F, 0xFF80}, "\x17\x80\xFF\x0E\xFF\x80"},
	{[]uint32{0xFF00, 0x4E2D}, "\x08\x80\x0E\x4E\x2D"},
	// 6: a static one.
	{[]uint32{0x17F, 0x300, 0x400, 0x37F}, "\x03\x7F\x04\x00\x03\x80\x04\x7F"},
	{[]uint32{0x300, 0x41, 0x37F, 0x41}, "\x04\x00\x41\x04\x7F\x41"},
	{[]uint32{0x2000}, "\x05\x00"},
	{[]uint32{0x207F, 0x2080, 0x20FF, 0x2100, 0x217F}, "\x05\x7F\x1F\x41\x80\xFF\x1E\x42\x80\xFF"},
	{[]uint32{0x207F, 0x20FF, 0x217F, 0x303F, 0x17F}, "\x05\x7F\x06\x7F\x07\x7F\x08\x3F\x03\x7F"},
	{[]uint32{0x2080, 0x2100, 0x3000, 0x140}, "\x06\x00\x07\x00\x08\x00\x03\x40"},
	{[]uint32{0x2014, 0x4E2D}, "\x05\x14\x0E\x4E\x2D"},
	// 7: a window is laid.
	{[]uint32{0x2014, 0x2019}, "\x1F\x40\x94\x99"},
	{[]uint32{0x140, 0x17F, 0x100, 0x300, 0x37F}, "\x1F\x02\xC0\xFF\x80\x1E\x06\x80\xFF"},
	{[]uint32{0x380, 0x3EF, 0x3B1}, "\x1F\xFB\x90\xFF\xC1"},
	{[]uint32{0x250, 0x2CF}, "\x1F\xFA\x80\xFF"},
	{[]uint32{0x2CF, 0x2D0}, "\x0F\x02\xCF\x02\xD0"},
	{[]uint32{0x530, 0x5AF}, "\x1F\xFC\x80\xFF"},
	{[]uint32{0xFF80, 0xFF60}, "\x1F\xFF\xA0\x80"},
	{[]uint32{0xFFE0, 0xFFFF}, "\x1F\xA7\xE0\xFF"},
	{[]uint32{0x3380, 0x33FF}, "\x1F\x67\x80\xFF"},
	{[]uint32{0xE000, 0xE07F}, "\x1F\x68\x80\xFF"},
	{[]uint32{0x10000, 0x1007F}, "\x0B\xE0\x00\x80\xFF"},
	{[]uint32{0x10FF80, 0x10FFFF}, "\x0B\xFF\xFF\x80\xFF"},
	{[]uint32{0x3B1, 0x3B2, 0x430, 0x3B3}, "\x1F\xFB\xC1\xC2\x03\xB0\xC3"},
	// 8: none that is worth it.
	{[]uint32{0x180}, "\x0E\x01\x80"},
	{[]uint32{0x2180}, "\x0E\x21\x80"},
	{[]uint32{0x4E2D}, "\x0E\x4E\x2D"},
	{[]uint32{0x4E2D, 1}, "\x0E\x4E\x2D\x01\x01"},
	{[]uint32{0x4E2D, 0xA}, "\x0E\x4E\x2D\x0A"},
	{[]uint32{0x4E2D, 0xE9}, "\x0E\x4E\x2D\xE9"},
	{[]uint32{0x4E2D, 0x3040}, "\x0E\x4E\x2D\x06\x80"},
	{[]uint32{0xE000, 0x4E2D}, "\x0E\xE0\x00\x0E\x4E\x2D"},
	{[]uint32{0xF2FF, 0x4E2D}, "\x0E\xF2\xFF\x0E\x4E\x2D"},
	{[]uint32{0xD7FF}, "\x0E\xD7\xFF"},
	{[]uint32{0xFFFF}, "\x0E\xFF\xFF"},
	{[]uint32{0x10000}, "\x0B\xE0\x00\x80"},
	{[]uint32{0x10FFFF}, "\x0B\xFF\xFF\xFF"},
	{[]uint32{0x10FFFF, 0x41}, "\x0B\xFF\xFF\xFF\x41"},
	{[]uint32{0x1F600, 0x430}, "\x0B\xE1\xEC\x80\x03\xB0"},
	// 9: the Unicode mode.
	{[]uint32{0x4E2D, 0x2014}, "\x0F\x4E\x2D\x20\x14"},
	{[]uint32{0x4E2D, 0x1F600}, "\x0F\x4E\x2D\xD8\x3D\xDE\x00"},
	{[]uint32{0xD7FF, 0x4E2D}, "\x0F\xD7\xFF\x4E\x2D"},
	{[]uint32{0xF300, 0x4E2D}, "\x0F\xF3\x00\x4E\x2D"},
	{[]uint32{0xFFFF, 0x4E2D}, "\x0F\xFF\xFF\x4E\x2D"},
	{[]uint32{0x10000, 0x10080}, "\x0F\xD8\x00\xDC\x00\xD8\x00\xDC\x80"},
	{[]uint32{0x10FFFF, 0x4E2D}, "\x0F\xDB\xFF\xDF\xFF\x4E\x2D"},
	{[]uint32{0x1F600, 0x2014}, "\x0F\xD8\x3D\xDE\x00\x20\x14"},
}

// knownWide: of the Unicode mode, behind 4E2D 6587 each.
var knownWide = []row{
	// 1: back to the single mode.
	{[]uint32{0x61}, "\xE0\x61"},
	{[]uint32{0x61, 0x62}, "\xE0\x61\x62"},
	{[]uint32{0}, "\xE0\x00"},
	{[]uint32{1}, "\xE0\x01\x01"},
	{[]uint32{0x1F, 0x7F}, "\xE0\x01\x1F\x7F"},
	{[]uint32{0x80}, "\xE0\x80"},
	{[]uint32{0xFF}, "\xE0\xFF"},
	{[]uint32{0x100}, "\xE1\xC0"},
	{[]uint32{0x430, 0xFF00}, "\xE2\xB0\x08\x80"},
	{[]uint32{0x430, 0x431}, "\xE2\xB0\xB1"},
	{[]uint32{0x30B0, 0x30C0}, "\xE5\xF0\x07\xA0"},
	{[]uint32{0xFF7F, 1}, "\xE7\xFF\x01\x01"},
	// 2: a window is laid.
	{[]uint32{0x2014, 0x2019}, "\xEF\x40\x94\x99"},
	{[]uint32{0x380, 0x3EF}, "\xEF\xFB\x90\xFF"},
	{[]uint32{0xE000, 0xE07F}, "\xEF\x68\x80\xFF"},
	{[]uint32{0xFEFF, 0xFEFF}, "\xEF\xA5\xFF\xFF"},
	{[]uint32{0xFFE0, 0xFFFF}, "\xEF\xA7\xE0\xFF"},
	{[]uint32{0x10000, 0x1007F}, "\xF1\xE0\x00\x80\xFF"},
	{[]uint32{0x10FFFF, 0x10FF80}, "\xF1\xFF\xFF\xFF\x80"},
	// 3: units.
	{[]uint32{0x61, 0x4E2D}, "\x00\x61\x4E\x2D"},
	{[]uint32{0, 0x4E2D}, "\x00\x00\x4E\x2D"},
	{[]uint32{1, 0x2014}, "\x00\x01\x20\x14"},
	{[]uint32{0xE9, 0x180}, "\x00\xE9\x01\x80"},
	{[]uint32{0x430, 0x4E2D}, "\x04\x30\x4E\x2D"},
	{[]uint32{0x2014}, "\x20\x14"},
	{[]uint32{0x2014, 0x61}, "\x20\x14\xE0\x61"},
	{[]uint32{0xFEFF}, "\xFE\xFF"},
	{[]uint32{0xD7FF}, "\xD7\xFF"},
	{[]uint32{0xE000}, "\xF0\xE0\x00"},
	{[]uint32{0xE000, 0x4E2D}, "\xF0\xE0\x00\x4E\x2D"},
	{[]uint32{0xF2FF, 0x61}, "\xF0\xF2\xFF\xE0\x61"},
	{[]uint32{0xF300}, "\xF3\x00"},
	{[]uint32{0xFFFF}, "\xFF\xFF"},
	{[]uint32{0x10000}, "\xD8\x00\xDC\x00"},
	{[]uint32{0x1F600, 0x61}, "\xD8\x3D\xDE\x00\xE0\x61"},
	{[]uint32{0x10FFFF, 0x10FF7F}, "\xDB\xFF\xDF\xFF\xDB\xFF\xDF\x7F"},
}

// knownLong: which window is laid, and which one is meant.
var knownLong = []row{
	// All are laid, and the first one of them again.
	{laid(0, 9), "\x1F\x43\x80\x81\x1E\x44\x80\x81\x1D\x45\x80\x81\x1C\x46\x80\x81\x1B\x47\x80\x81\x1A\x48\x80\x81\x19\x49\x80\x81\x18\x4A\x80\x81\x1F\x4B\x80\x81"},
	// By an index, or by two bytes, in either mode, they come in the same order.
	{[]uint32{0x2180, 0x2181, 0x1F600, 0x1F601, 0x41, 0x10000, 0x2200, 0x2201}, "\x1F\x43\x80\x81\x0B\xC1\xEC\x80\x81\x41\x0F\xD8\x00\xDC\x00\xED\x44\x80\x81"},
	// One that a scalar is taken from is used.
	{[]uint32{0xFF00, 0x2180, 0x2181}, "\x08\x80\x1E\x43\x80\x81"},
	{[]uint32{0xFF00, 0xFF01, 0x2180, 0x2181}, "\x17\x80\x81\x1E\x43\x80\x81"},
	{[]uint32{0xFF00, 0x30C0, 0x3040, 0x2180, 0x2181}, "\x08\x80\x07\xA0\x06\x80\x1C\x43\x80\x81"},
	// The active one isn't used again by its scalars; by coming back to it, it is.
	{[]uint32{0x430, 0x431, 0xE9, 0x100, 0x600, 0x900, 0x3040, 0x30C0, 0xFF00, 0x432, 0x2180, 0x2181}, "\x12\xB0\xB1\x01\xE9\x02\xC0\x04\x80\x05\x80\x06\x80\x07\xA0\x08\x80\xB2\x1A\x43\x80\x81"},
	{[]uint32{0x430, 0x431, 0xE9, 0x100, 0x600, 0x900, 0x3040, 0x30C0, 0xFF00, 0x4E2D, 0x6587, 0x41, 0x42, 0x2180, 0x2181}, "\x12\xB0\xB1\x01\xE9\x02\xC0\x04\x80\x05\x80\x06\x80\x07\xA0\x08\x80\x0F\x4E\x2D\x65\x87\xE2\x41\x42\x18\x43\x80\x81"},
	// A scalar that is written by units uses none.
	{[]uint32{0x2180, 0x2181, 0x4E2D, 0x6587, 0x30C0, 0x2200, 0x2201}, "\x1F\x43\x80\x81\x0F\x4E\x2D\x65\x87\x30\xC0\xEE\x44\x80\x81"},
	{[]uint32{0x4E2D, 0x6587, 0xFF00, 0x41, 0x2200, 0x2201}, "\x0F\x4E\x2D\x65\x87\xE7\x80\x41\x1E\x44\x80\x81"},
	// Two windows hold it: the active one is meant in the single mode; else the first.
	{[]uint32{0x100, 0x101, 0xC5, 0x85, 0xC5}, "\x11\xC0\xC1\x85\x10\x85\xC5"},
	{[]uint32{0x430, 0x431, 0xC5, 0x41}, "\x12\xB0\xB1\x01\xC5\x41"},
	{[]uint32{0x100, 0x101, 0x4E2D, 0x6587, 0xC5}, "\x11\xC0\xC1\x0F\x4E\x2D\x65\x87\xE0\xC5"},
	{[]uint32{0x100, 0x101, 0x4E2D, 0x6587, 0x41, 0x100}, "\x11\xC0\xC1\x0F\x4E\x2D\x65\x87\xE1\x41\xC0"},
	// What was laid is near then, as long as it isn't laid anew.
	{[]uint32{0x1F600, 0x41, 0x4E2D, 0x1F601}, "\x0B\xE1\xEC\x80\x41\x0E\x4E\x2D\x81"},
	{[]uint32{0x1F600, 0x430, 0x431, 0x1F601}, "\x0B\xE1\xEC\x80\x12\xB0\xB1\x08\x81"},
	{slices.Concat(laid(0, 2), []uint32{0xFF00, 0x30C0, 0x31}), "\x1F\x43\x80\x81\x1E\x44\x80\x81\x0F\xFF\x00\x30\xC0\xE6\x31"},
	// It is easy, but the one behind it isn't, and they are twins.
	{slices.Concat(laid(0, 7), []uint32{0x4E2D, 0x6587, 0xE9, 0x130}), "\x1F\x43\x80\x81\x1E\x44\x80\x81\x1D\x45\x80\x81\x1C\x46\x80\x81\x1B\x47\x80\x81\x1A\x48\x80\x81\x19\x49\x80\x81\x0F\x4E\x2D\x65\x87\xE8\xF9\xA9\xF0"},
	{slices.Concat(laid(0, 7), []uint32{0xE9, 0x130}), "\x1F\x43\x80\x81\x1E\x44\x80\x81\x1D\x45\x80\x81\x1C\x46\x80\x81\x1B\x47\x80\x81\x1A\x48\x80\x81\x19\x49\x80\x81\x01\xE9\x03\x30"},
}

// knownPlain: by the plain profile.
var knownPlain = []row{
	{nil, ""},
	{[]uint32{0xD6, 0x6C}, "\xD6\x6C"},
	{[]uint32{0x41C, 0x43E}, "\x0F\x04\x1C\x04\x3E"},
	{[]uint32{0x41C, 0x43E, 0x441}, "\x0F\x04\x1C\x04\x3E\x04\x41"},
	{[]uint32{0x41C, 0x41}, "\x0F\x04\x1C\x00\x41"},
	{[]uint32{0x4E2D, 0x6587}, "\x0F\x4E\x2D\x65\x87"},
	{[]uint32{0x4E2D, 0x41}, "\x0F\x4E\x2D\x00\x41"},
	{[]uint32{0x1F600}, "\x0F\xD8\x3D\xDE\x00"},
	{[]uint32{0x1F600, 0x1F601}, "\x0F\xD8\x3D\xDE\x00\xD8\x3D\xDE\x01"},
	{[]uint32{0xFEFF}, "\x0E\xFE\xFF"},
	{[]uint32{0xFEFF, 0xFEFF}, "\x0E\xFE\xFF\x0F\xFE\xFF"},
	{[]uint32{0xFEFF, 0x41, 1, 0xE9}, "\x0E\xFE\xFF\x41\x01\x01\xE9"},
	{[]uint32{0xFEFF, 0x100, 0xFEFF}, "\x0E\xFE\xFF\x0F\x01\x00\xFE\xFF"},
	{[]uint32{0x41, 0xFEFF}, "\x41\x0F\xFE\xFF"},
	{[]uint32{0, 9, 0xA, 0xD, 0x20, 0x7E, 0x7F}, "\x00\x09\x0A\x0D\x20\x7E\x7F"},
	{[]uint32{1, 8, 0xB, 0xC, 0xE, 0x1F}, "\x01\x01\x01\x08\x01\x0B\x01\x0C\x01\x0E\x01\x1F"},
	{[]uint32{0x80, 0x9F, 0xA0, 0xFF, 0x100, 0x80, 0xFF}, "\x80\x9F\xA0\xFF\x0F\x01\x00\x00\x80\x00\xFF"},
	{[]uint32{0x100}, "\x0F\x01\x00"},
	{[]uint32{0x2014, 0, 1, 0x7F}, "\x0F\x20\x14\x00\x00\x00\x01\x00\x7F"},
	{[]uint32{0xD7FF, 0xE000, 0xF2FF, 0xF300, 0xFFFF}, "\x0F\xD7\xFF\xF0\xE0\x00\xF0\xF2\xFF\xF3\x00\xFF\xFF"},
	{[]uint32{0xE000, 0xE000}, "\x0F\xF0\xE0\x00\xF0\xE0\x00"},
	{[]uint32{0x10000, 0x10FFFF}, "\x0F\xD8\x00\xDC\x00\xDB\xFF\xDF\xFF"},
	{[]uint32{0x61, 0xE9, 2, 0x430, 0x62, 0xE000}, "\x61\xE9\x01\x02\x0F\x04\x30\x00\x62\xF0\xE0\x00"},
}

// rows: all of one profile that are known.
func rows(plain bool) []row {
	if plain {
		return knownPlain
	}
	l := slices.Concat(known, knownLong)
	for _, x := range knownWide {
		l = append(l, row{append([]uint32{0x4E2D, 0x6587}, x.l...), "\x0F\x4E\x2D\x65\x87" + x.s})
	}
	return l
}

func TestP151Known(t *testing.T) {
	for _, plain := range both {
		for _, x := range rows(plain) {
			if s, f := write(plain, x.l); s != x.s || f != (api.Fail{}) {
				t.Errorf("plain %t: %X: % X, %v, not % X", plain, x.l, s, f, x.s)
			}
			if s := text(plain, x.l); s != x.s {
				t.Errorf("plain %t: %X by the chapter's words: % X, not % X", plain, x.l, s, x.s)
			}
			hold(t, plain, x.l)
		}
	}
}

func TestP151New(t *testing.T) {
	for _, plain := range both {
		e := compress.NewEncoder(plain)
		if encoderOf(e) != (encoder{}) {
			t.Error(encoderOf(e))
		}
		if n, s := e.Feed(nil, 9); n != 0 || s != "" || encoderOf(e) != (encoder{}) {
			t.Error(n, s, encoderOf(e))
		}
		e.End()
		if n, s := e.Feed(nil, 9); n != 0 || s != "" || encoderOf(e) != (encoder{done: true}) {
			t.Error("of no scalars nothing is made:", n, s, encoderOf(e))
		}
	}
}

func TestP151EveryScalar(t *testing.T) {
	eachScalar(func(c uint32) {
		for _, plain := range both {
			if s, f := write(plain, []uint32{c}); s != text(plain, []uint32{c}) || f != (api.Fail{}) {
				t.Fatalf("plain %t: %X: % X, %v", plain, c, s, f)
			}
		}
	})
}

// Each scalar with others ahead and behind.
func TestP151EveryScalarInAList(t *testing.T) {
	around := []struct{ ahead, behind []uint32 }{
		{[]uint32{0x41}, []uint32{0x41}}, {nil, []uint32{0x4E00}}, {[]uint32{0x4E00, 0x4E01}, []uint32{0x41}},
		{[]uint32{0x1F600, 0x1F601, 0x4E00, 0x4E01}, []uint32{0x4E00, 0x41}}, {[]uint32{0x430, 0x431}, []uint32{0x430}},
	}
	for i, x := range around {
		t.Run(fmt.Sprint(i), func(t *testing.T) {
			t.Parallel()
			mostScalars(func(c uint32) {
				l := slices.Concat(x.ahead, []uint32{c}, x.behind)
				for _, plain := range both {
					s, f := write(plain, l)
					if want := text(plain, l); s != want || f != (api.Fail{}) || len(s) > most(plain, l) {
						t.Fatalf("plain %t: %X: % X, %v, not % X", plain, l, s, f, want)
					}
				}
			})
		})
	}
}

// Each scalar beside itself, and beside others that may be its twins.
func TestP151EveryScalarAndItsNext(t *testing.T) {
	for _, step := range []uint32{0, 1, 0x7F, 0x80} {
		t.Run(fmt.Sprintf("%X", step), func(t *testing.T) {
			t.Parallel()
			mostScalars(func(c uint32) {
				if !isScalar(c + step) {
					return
				}
				for _, l := range [][]uint32{{c, c + step}, {c + step, c}, {0x4E00, 0x4E01, c, c + step}} {
					if s, f := write(false, l); s != text(false, l) || f != (api.Fail{}) {
						t.Fatalf("%X: % X, %v, not % X", l, s, f, text(false, l))
					}
				}
			})
		})
	}
}

// All lists of two of the edges behind each leader, and some of three.
func TestP151ShortLists(t *testing.T) {
	for i, ahead := range leaders {
		t.Run(fmt.Sprintf("%X", ahead), func(t *testing.T) {
			t.Parallel()
			for a, c := range edges {
				hold(t, false, append(slices.Clone(ahead), c))
				hold(t, true, append(slices.Clone(ahead), c))
				for b, d := range edges {
					hold(t, false, append(slices.Clone(ahead), c, d))
					if i < 2 || i == 7 || i == 8 {
						hold(t, true, append(slices.Clone(ahead), c, d))
					}
					for k := (a + b) % 7; k < len(edges); k += 7 {
						hold(t, false, append(slices.Clone(ahead), c, d, edges[k]))
					}
				}
			}
		})
	}
}

func TestP151MixedLists(t *testing.T) {
	r := source(151)
	for range 60000 {
		l := r.list(30)
		for _, plain := range both {
			hold(t, plain, l)
		}
	}
}

// What is behind a scalar is known with the next one, or at End, or at a number
// that is none: its bytes are made then, and not ahead of that.
func TestP151TheOneBehind(t *testing.T) {
	for _, plain := range both {
		for _, x := range rows(plain) {
			texts := each(plain, x.l)
			e := compress.NewEncoder(plain)
			for i := range x.l {
				n, s := e.Feed(x.l[i:i+1], 99)
				want := ""
				if i > 0 {
					want = texts[i-1]
				}
				if n != 1 || s != want || encoderOf(e) != (encoder{at: i + 1}) {
					t.Errorf("plain %t: %X at %d: %d, % X, %v, not % X", plain, x.l, i, n, s, encoderOf(e), want)
				}
			}
			last := strings.Join(texts, "")[len(strings.Join(texts[:max(len(texts)-1, 0)], "")):]
			e.End()
			if encoderOf(e) != (encoder{at: len(x.l), done: last == "", kept: len(last)}) {
				t.Errorf("plain %t: %X, and End: %v", plain, x.l, encoderOf(e))
			}
			if n, s := e.Feed(nil, 99); n != 0 || s != last || encoderOf(e) != (encoder{at: len(x.l), done: true}) {
				t.Errorf("plain %t: %X, behind End: %d, % X, %v", plain, x.l, n, s, encoderOf(e))
			}
		}
	}
}

// Five bytes are kept at most, and one scalar: with each one that is eaten, the
// bytes of the one ahead are there.
func TestP151Kept(t *testing.T) {
	for _, plain := range both {
		r, greatest := source(1510), 0
		for range 10000 {
			l := append(r.list(20), 0x1F600, 0x4E00)
			texts := each(plain, l)
			e := compress.NewEncoder(plain)
			e.Feed(l[:1], 0)
			for i, c := range l[1:] {
				if n, s := e.Feed([]uint32{c, c}, 0); n != 1 || s != "" || encoderOf(e) != (encoder{at: i + 2, kept: len(texts[i])}) {
					t.Fatalf("plain %t: %X at %d: %d, % X, %v, not % X", plain, l, i, n, s, encoderOf(e), texts[i])
				}
				greatest = max(greatest, e.Kept())
				if n, s := e.Feed(nil, 9); n != 0 || s != texts[i] || encoderOf(e) != (encoder{at: i + 2}) {
					t.Fatalf("plain %t: %X at %d: %d, % X, %v, not % X", plain, l, i, n, s, encoderOf(e), texts[i])
				}
			}
		}
		if greatest != 5 {
			t.Error(greatest, "bytes are kept at most")
		}
	}
}

// numbers that are no scalars.
var wrongs = []uint32{0xD800, 0xD801, 0xDBFF, 0xDC00, 0xDFFF, 0x110000, 0x110001, 0x1FFFFF, 0x7FFFFFFF, 0x80000041, math.MaxUint32}

// At each place of a list: the ones ahead are told, and nothing is behind them.
func TestP151NoScalars(t *testing.T) {
	for _, plain := range both {
		for _, x := range rows(plain) {
			for i := range len(x.l) + 1 {
				want := text(plain, x.l[:i])
				for _, c := range wrongs {
					e := compress.NewEncoder(plain)
					n, s := e.Feed(slices.Concat(x.l[:i], []uint32{c}, x.l[i:]), 99)
					if n != i || s != want || encoderOf(e) != (encoder{i, wrong(i), true, 0}) {
						t.Fatalf("plain %t: %X, then %X: %d, % X, %v, not % X", plain, x.l[:i], c, n, s, encoderOf(e), want)
					}
				}
			}
		}
	}
}

func TestP151EveryNumberThatIsNone(t *testing.T) {
	l := slices.Clone(wrongs)
	for c := uint32(0xD800); c <= 0xDFFF; c++ {
		l = append(l, c)
	}
	for _, c := range l {
		for _, plain := range both {
			e := compress.NewEncoder(plain)
			if n, s := e.Feed([]uint32{c, 0x41}, 99); n != 0 || s != "" || encoderOf(e) != (encoder{0, wrong(0), true, 0}) {
				t.Fatalf("%X: %d, % X, %v", c, n, s, encoderOf(e))
			}
			e = compress.NewEncoder(plain)
			if n, s := e.Feed([]uint32{0xE9, c, 0x41}, 99); n != 1 || s != "\xE9" || encoderOf(e) != (encoder{1, wrong(1), true, 0}) {
				t.Fatalf("E9 %X: %d, % X, %v", c, n, s, encoderOf(e))
			}
		}
	}
}

// What the failure makes is kept where there is no room, and told behind it.
func TestP151KeptBehindAFailure(t *testing.T) {
	const want = "\x0B\xE1\xEC\x80"
	for _, room := range rooms {
		e := compress.NewEncoder(false)
		if n, s := e.Feed([]uint32{0x1F600, 0xD800, 0x41}, 0); n != 1 || s != "" || encoderOf(e) != (encoder{1, wrong(1), false, 4}) {
			t.Errorf("%d, % X, %v", n, s, encoderOf(e))
		}
		told := 0
		for _, l := range [][]uint32{{0x41}, {0xD800}, nil} {
			k := min(max(room, 0), 4-told)
			if n, s := e.Feed(l, room); n != 0 || s != want[told:told+k] {
				t.Errorf("room %d: %d, % X", room, n, s)
			}
			told += k
			e.End()
			if encoderOf(e) != (encoder{1, wrong(1), told == 4, 4 - told}) {
				t.Errorf("room %d: %v", room, encoderOf(e))
			}
		}
	}
	e := compress.NewEncoder(false)
	if n, s := e.Feed([]uint32{0x41, 0x1F600, 0xD800}, 3); n != 2 || s != "\x41\x0B\xE1" || encoderOf(e) != (encoder{2, wrong(2), false, 2}) {
		t.Errorf("%d, % X, %v", n, s, encoderOf(e))
	}
}

// feed hands a list to an encoder in parts that end at the given places, each
// one so often till nothing of it is left, or it has failed, with the rooms in
// turn; and holds each answer against the bytes of each scalar.
func feed(t *testing.T, plain bool, l []uint32, ends []int, turn []int) string {
	t.Helper()
	bad := scalar.First(l...)
	if bad < 0 {
		bad = len(l)
	}
	made := []int{0} // how many bytes so many scalars make
	whole := ""
	for _, s := range each(plain, l[:bad]) {
		whole += s
		made = append(made, len(whole))
	}
	e := compress.NewEncoder(plain)
	all, at, now, calls := "", 0, 0, 0 // now: how many bytes are made
	failed := false
	for _, end := range append(slices.Clone(ends), len(l)) {
		for more := true; more; calls++ {
			room := turn[calls%len(turn)]
			free := min(max(room, 0), 1000)
			to := at
			for to < end && now-len(all) <= free && !failed {
				if failed = to == bad; failed {
					now = made[bad]
				} else {
					now = made[to]
					to++
				}
			}
			want := whole[len(all):min(len(all)+free, now)]
			n, s := e.Feed(l[at:end], room)
			all += s
			state := encoder{at: to, kept: now - len(all)}
			if failed {
				state = encoder{bad, wrong(bad), state.kept == 0, state.kept}
			}
			if n != to-at || s != want || encoderOf(e) != state || state.kept > 5 {
				t.Fatalf("plain %t: %X from %d to %d, room %d: %d, % X, %v, not %d, % X, %v", plain, l, at, end, room, n, s, encoderOf(e), to-at, want, state)
			}
			at = to
			more = at < end && !failed
		}
	}
	was := e.Fail()
	e.End()
	kept := len(whole) - len(all)
	if encoderOf(e) != (encoder{at, was, kept == 0, kept}) {
		t.Fatalf("plain %t: %X, and End: %v", plain, l, encoderOf(e))
	}
	n, s := e.Feed(l, 1000)
	if n != 0 || all+s != whole || encoderOf(e) != (encoder{at, was, true, 0}) {
		t.Fatalf("plain %t: %X, behind End: %d, % X, %v, not % X", plain, l, n, s, encoderOf(e), whole[len(all):])
	}
	return all + s
}

// turns: rooms that come in turn.
var turns = [][]int{{math.MaxInt}, {1}, {2}, {3}, {4}, {5}, {6}, {0, 1}, {-1, 2, 1}, {1, 7, math.MinInt}}

// lists: those that are known, and such as go wrong.
func lists(plain bool) [][]uint32 {
	var all [][]uint32
	for _, x := range rows(plain) {
		if len(x.l) <= 12 {
			all = append(all, x.l)
		}
		if i := len(x.l) / 2; len(x.l) <= 6 {
			all = append(all, slices.Concat(x.l, wrongs[:1]), slices.Concat(x.l[:i], wrongs[5:6], x.l[i:]))
		}
	}
	return all
}

func TestP151PartsAndRooms(t *testing.T) {
	for _, plain := range both {
		for _, l := range lists(plain) {
			for i := range len(l) + 1 {
				for j := i; j <= len(l); j++ {
					for _, turn := range turns {
						feed(t, plain, l, []int{i, j}, turn)
					}
				}
			}
		}
	}
}

func TestP151AScalarAtATime(t *testing.T) {
	r := source(1511)
	for i := range 3000 {
		plain := i%3 == 0
		l := r.list(20)
		if r.below(4) == 0 {
			l = append(l, wrongs[r.below(len(wrongs))], 0x41)
		}
		var ends []int
		for i := range l {
			ends = append(ends, i)
		}
		whole := feed(t, plain, l, nil, turns[0])
		for _, turn := range turns {
			if got := feed(t, plain, l, ends, turn); got != whole {
				t.Fatalf("plain %t: %X: % X, not % X", plain, l, got, whole)
			}
		}
	}
}

// While it keeps bytes it looks at no number; while it keeps none it looks at
// one, room or not. A scalar that waits is no byte.
func TestP151WhatIsKeptComesFirst(t *testing.T) {
	e := compress.NewEncoder(false)
	if n, s := e.Feed([]uint32{0x1F600, 0x41, 0xD800}, 3); n != 2 || s != "\x0B\xE1\xEC" || encoderOf(e) != (encoder{at: 2, kept: 1}) {
		t.Errorf("%d, % X, %v", n, s, encoderOf(e))
	}
	for _, room := range []int{0, -1, math.MinInt} {
		if n, s := e.Feed([]uint32{0xD800}, room); n != 0 || s != "" || encoderOf(e) != (encoder{at: 2, kept: 1}) {
			t.Errorf("room %d: %d, % X, %v", room, n, s, encoderOf(e))
		}
	}
	if n, s := e.Feed([]uint32{0x42, 0xD800}, 1); n != 1 || s != "\x80" || encoderOf(e) != (encoder{at: 3, kept: 1}) {
		t.Errorf("%d, % X, %v", n, s, encoderOf(e))
	}
	if n, s := e.Feed([]uint32{0xD800}, 2); n != 0 || s != "\x41\x42" || encoderOf(e) != (encoder{3, wrong(3), true, 0}) {
		t.Errorf("%d, % X, %v", n, s, encoderOf(e))
	}
	for _, room := range []int{0, -1, math.MinInt} {
		e := compress.NewEncoder(false)
		if n, s := e.Feed([]uint32{0x41, 0x42, 0x43}, room); n != 2 || s != "" || encoderOf(e) != (encoder{at: 2, kept: 1}) {
			t.Errorf("room %d: %d, % X, %v", room, n, s, encoderOf(e))
		}
		e = compress.NewEncoder(false)
		if n, s := e.Feed([]uint32{0xDFFF}, room); n != 0 || s != "" || encoderOf(e) != (encoder{0, wrong(0), true, 0}) {
			t.Errorf("room %d: %d, % X, %v", room, n, s, encoderOf(e))
		}
	}
}

// Where the room is just full nothing is kept, so that one more is eaten.
func TestP151FullRoom(t *testing.T) {
	e := compress.NewEncoder(false)
	if n, s := e.Feed([]uint32{0x4E2D, 0x6587, 0x41, 0x42, 0x43}, 5); n != 4 || s != "\x0F\x4E\x2D\x65\x87" || encoderOf(e) != (encoder{at: 4, kept: 2}) {
		t.Errorf("%d, % X, %v", n, s, encoderOf(e))
	}
	if n, s := e.Feed([]uint32{0xD800}, 2); n != 0 || s != "\xE0\x41" || encoderOf(e) != (encoder{4, wrong(4), false, 1}) {
		t.Errorf("%d, % X, %v", n, s, encoderOf(e))
	}
	if n, s := e.Feed([]uint32{0x44}, 2); n != 0 || s != "\x42" || encoderOf(e) != (encoder{4, wrong(4), true, 0}) {
		t.Errorf("%d, % X, %v", n, s, encoderOf(e))
	}
}

// What End makes is told behind it, by whatever rooms; nothing else is.
func TestP151BehindAnEnd(t *testing.T) {
	const want = "\x0F\xDB\xFF\xDF\xFF"
	for _, room := range rooms {
		e := compress.NewEncoder(true)
		e.Feed([]uint32{0x10FFFF}, 99)
		if encoderOf(e) != (encoder{at: 1}) {
			t.Errorf("room %d: %v", room, encoderOf(e))
		}
		e.End()
		told := 0
		for _, l := range [][]uint32{{0x41}, {0xD800}, nil, {0xD800, 0x41}} {
			if encoderOf(e) != (encoder{at: 1, kept: 5 - told, done: told == 5}) {
				t.Errorf("room %d: %v", room, encoderOf(e))
			}
			k := min(max(room, 0), 5-told)
			if n, s := e.Feed(l, room); n != 0 || s != want[told:told+k] {
				t.Errorf("room %d: %d, % X, %v", room, n, s, encoderOf(e))
			}
			told += k
			e.End()
		}
	}
}

// Ahead of End bytes may be kept, and a scalar wait besides: of both all is told.
func TestP151EndWithBytesKept(t *testing.T) {
	e := compress.NewEncoder(false)
	e.Feed([]uint32{0x10000, 0x10080}, 0)
	if encoderOf(e) != (encoder{at: 2, kept: 5}) {
		t.Error(encoderOf(e))
	}
	e.End()
	if encoderOf(e) != (encoder{at: 2, kept: 9}) {
		t.Error(encoderOf(e))
	}
	if n, s := e.Feed([]uint32{0x41}, 99); n != 0 || s != "\x0F\xD8\x00\xDC\x00\xD8\x00\xDC\x80" || encoderOf(e) != (encoder{at: 2, done: true}) {
		t.Errorf("%d, % X, %v", n, s, encoderOf(e))
	}
}

func TestP151BehindAFailure(t *testing.T) {
	for _, plain := range both {
		e := compress.NewEncoder(plain)
		e.Feed([]uint32{0xE9, 0x110000}, 9)
		for range 2 {
			for _, l := range [][]uint32{nil, {0x41}, {0xD800}, {0x110000, 0x41}} {
				for _, room := range rooms {
					if n, s := e.Feed(l, room); n != 0 || s != "" || encoderOf(e) != (encoder{1, wrong(1), true, 0}) {
						t.Errorf("%X: %d, % X, %v", l, n, s, encoderOf(e))
					}
				}
			}
			e.End()
		}
	}
}

func TestP151WhatIsHandedInStays(t *testing.T) {
	for _, plain := range both {
		for _, room := range rooms {
			full := []uint32{0x41, 0x20AC, 0x10FFFF, 0xD800, 7, 8, 9}
			was := slices.Clone(full)
			e := compress.NewEncoder(plain)
			e.Feed(full[:2], room)
			e.Feed(full[2:4], room)
			e.End()
			if !slices.Equal(full, was) {
				t.Errorf("room %d: %X", room, full)
			}
		}
		l := []uint32{0xFEFF}
		e := compress.NewEncoder(plain)
		e.Feed(l, 0)
		l[0] = 0x41
		e.End()
		if _, s := e.Feed(nil, 9); s != "\x0E\xFE\xFF" {
			t.Errorf("% X: what was eaten hangs on the list still", s)
		}
	}
}

func TestP151EncodersAreForThemselves(t *testing.T) {
	a, b := compress.NewEncoder(false), compress.NewEncoder(false)
	p := compress.NewEncoder(true)
	a.Feed([]uint32{0x2180, 0x2181}, 9)
	b.Feed([]uint32{0x4E2D, 0x6587}, 1)
	p.Feed([]uint32{0x4E2D, 0x6587}, 9)
	if _, s := a.Feed([]uint32{0x2182, 0x2200, 0x2201, 0x41}, 99); s != "\x81\x82\x1E\x44\x80\x81" {
		t.Errorf("% X", s)
	}
	if _, s := b.Feed([]uint32{0x2180, 0x2181, 0xD800}, 99); s != "\x4E\x2D\x65\x87\xEF\x43\x80\x81" {
		t.Errorf("% X", s)
	}
	if _, s := p.Feed([]uint32{0xFEFF, 0x41}, 99); s != "\x65\x87\xFE\xFF" {
		t.Errorf("% X", s)
	}
	if encoderOf(a) != (encoder{at: 6}) || encoderOf(b) != (encoder{4, wrong(4), true, 0}) || encoderOf(p) != (encoder{at: 4}) {
		t.Error(encoderOf(a), encoderOf(b), encoderOf(p))
	}
	c := compress.NewEncoder(false)
	if _, s := c.Feed([]uint32{0x2200, 0x2201, 0x41}, 99); s != "\x1F\x44\x80\x81" {
		t.Errorf("% X: a new one knows of others", s)
	}
}

// carry writes a list and reads it again, by so many scalars or bytes and so
// much room a call. Each call gets on by a scalar or a byte: more calls than
// there are of both are none of a machine that ends.
func carry(plain bool, l []uint32, part, room int) (string, []uint32) {
	e, d := compress.NewEncoder(plain), expand.NewDecoder()
	var text strings.Builder
	calls := 7*len(l) + 2
	for i := 0; i < calls && !e.Done(); i++ {
		n, s := e.Feed(l[:min(part, len(l))], room)
		text.WriteString(s)
		if l = l[n:]; len(l) == 0 {
			e.End()
		}
	}
	var back []uint32
	s := text.String()
	for i := 0; i < calls && !d.Done(); i++ {
		n, c := d.Feed(s[:min(part, len(s))], room)
		back = append(back, c...)
		if s = s[n:]; len(s) == 0 {
			d.End()
		}
	}
	return text.String(), back
}

func TestP152ThereAndBack(t *testing.T) {
	var rising []uint32
	eachScalar(func(c uint32) { rising = append(rising, c) })
	falling := slices.Clone(rising)
	slices.Reverse(falling)
	mixed := slices.Clone(rising)
	r := source(1520)
	for i := range mixed {
		j := r.below(i + 1)
		mixed[i], mixed[j] = mixed[j], mixed[i]
	}
	for i, all := range [][]uint32{rising, falling, mixed} {
		for _, plain := range both {
			t.Run(fmt.Sprint(i, plain), func(t *testing.T) {
				t.Parallel()
				want := text(plain, all)
				if len(want) > most(plain, all) {
					t.Error(len(want), "bytes")
				}
				for _, x := range []struct{ part, room int }{{len(all) * 6, math.MaxInt}, {1, 1}, {1000, 7}} {
					s, back := carry(plain, all, x.part, x.room)
					if s != want {
						t.Errorf("parts of %d, room %d: written otherwise", x.part, x.room)
					}
					if !slices.Equal(back, all) {
						t.Errorf("parts of %d, room %d: read otherwise", x.part, x.room)
					}
				}
			})
		}
	}
}

// size: how many bytes a list takes.
func size(t *testing.T, plain bool, l []uint32) int {
	t.Helper()
	s, f := write(plain, l)
	if f != (api.Fail{}) {
		t.Errorf("%X: %v", l, f)
	}
	return len(s)
}

// The bounds hold, and there are lists that take just so much.
func TestP152Bounds(t *testing.T) {
	r := source(1521)
	for range 20000 {
		l := r.list(60)
		for _, plain := range both {
			if n := size(t, plain, l); n > most(plain, l) {
				t.Fatalf("plain %t: %X: %d bytes, more than %d", plain, l, n, most(plain, l))
			}
		}
	}
	for _, l := range [][]uint32{{0x4E2D}, {0xE000}, {0xE000, 0x4E2D}, {0xF2FF, 0x180, 0xF2FF}, {0xFEFF}} {
		if n := size(t, false, l); n != 3*len(l) {
			t.Errorf("%X: %d bytes, not three a unit", l, n)
		}
	}
	for _, l := range [][]uint32{{0xFEFF, 0x100}, {0xFEFF, 0xE000, 0xF2FF, 0x1F600}, {0xFEFF, 1, 0x100}, {0xFEFF, 0x1F, 0xF2FF, 0x41}} {
		if n := size(t, true, l); n != most(true, l) {
			t.Errorf("%X: %d bytes, not %d", l, n, most(true, l))
		}
	}
}

// single: the scalars that take a byte each.
func single() []uint32 {
	l := []uint32{0, 9, 0xA, 0xD}
	for c := uint32(0x20); c <= 0xFF; c++ {
		if c <= 0x7E || c >= 0xA0 {
			l = append(l, c)
		}
	}
	return l
}

func TestP152AByteEach(t *testing.T) {
	all := single()
	same := func(l ...uint32) {
		t.Helper()
		for _, plain := range both {
			if s, f := write(plain, l); s != hex(l...) || f != (api.Fail{}) {
				t.Fatalf("plain %t: %X: % X, %v", plain, l, s, f)
			}
		}
	}
	same(all...)
	for _, c := range all {
		same(c)
		for _, d := range all {
			same(c, d)
		}
	}
	r := source(1522)
	for range 2000 {
		l := make([]uint32, r.below(200))
		for i := range l {
			l[i] = all[r.below(len(all))]
		}
		same(l...)
	}
}

// Behind FEFF, the first one, a list without FEFF is written as it is alone.
func TestP152BehindTheMark(t *testing.T) {
	same := func(plain bool, l []uint32) {
		t.Helper()
		if slices.Contains(l, api.Mark) {
			return
		}
		alone, _ := write(plain, l)
		if s, f := write(plain, append([]uint32{api.Mark}, l...)); s != "\x0E\xFE\xFF"+alone || f != (api.Fail{}) {
			t.Fatalf("plain %t: FEFF and %X: % X, %v, not 0E FE FF % X", plain, l, s, f, alone)
		}
	}
	for _, plain := range both {
		for _, x := range rows(plain) {
			same(plain, x.l)
		}
		for _, c := range edges {
			same(plain, []uint32{c})
			for _, d := range edges {
				same(plain, []uint32{c, d})
			}
		}
		r := source(1523)
		for range 20000 {
			same(plain, r.list(20))
		}
	}
}

// The chapter's words as these tests have them: what they rest on.
func TestWords(t *testing.T) {
	for _, x := range []struct {
		c      uint32
		x      byte
		offset uint32
		ok     bool
	}{
		{0x7F, 0, 0, false}, {0x80, 1, 0x80, true}, {0xE9, 0xF9, 0xC0, true}, {0x3B1, 0xFB, 0x370, true}, {0x3042, 0xFD, 0x3040, true},
		{0x33FF, 0x67, 0x3380, true}, {0x3400, 0, 0, false}, {0x4E00, 0, 0, false}, {0xD7FF, 0, 0, false}, {0xE000, 0x68, 0xE000, true},
		{0xFFDF, 0xFF, 0xFF60, true}, {0xFFFF, 0xA7, 0xFF80, true}, {0x10000, 0, 0, false},
	} {
		if i, offset, ok := index(x.c); i != x.x || offset != x.offset || ok != x.ok {
			t.Errorf("%X: %X, %X, %t", x.c, i, offset, ok)
		}
	}
	st := begin(false)
	for _, n := range []int{7, 0, 7, 3} {
		st.touch(n)
	}
	if !slices.Equal(st.used, []int{3, 7, 0, 1, 2, 4, 5, 6}) {
		t.Error(st.used)
	}
	if scalar.First(edges...) >= 0 || !slices.IsSorted(edges) {
		t.Errorf("%X", edges)
	}
}
