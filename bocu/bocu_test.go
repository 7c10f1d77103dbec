package bocu_test

import (
	"fmt"
	"math"
	"slices"
	"sort"
	"strings"
	"testing"

	"pilcrow/api"
	"pilcrow/bocu"
	"pilcrow/scalar"
)

// row is one of layer 11's table: width is how many differences each of its
// first bytes has.
type row struct {
	from, to     byte
	trails       int
	least, width int
}

var table = []row{
	{0x21, 0x21, 3, -14536567, 14348907},
	{0x22, 0x24, 2, -187660, 59049},
	{0x25, 0x4F, 1, -10513, 243},
	{0x50, 0xCF, 0, -64, 1},
	{0xD0, 0xFA, 1, 64, 243},
	{0xFB, 0xFD, 2, 10513, 59049},
	{0xFE, 0xFE, 3, 187660, 14348907},
}

// trailBytes: all of them by layer 11's chapter, each at the place that it is
// worth.
func trailBytes() string {
	var out []byte
	for b := range 256 {
		if !slices.Contains(kept, byte(b)) {
			out = append(out, byte(b))
		}
	}
	return string(out)
}

// kept: the bytes that stand for these scalars alone.
var kept = []byte{0, 7, 8, 9, 0xA, 0xB, 0xC, 0xD, 0xE, 0xF, 0x1A, 0x1B, 0x20}

var trails = trailBytes()

// packed: a difference's bytes, those of the table, however great it is.
func packed(d int) string {
	r := table[0]
	for _, x := range table {
		if x.least <= d {
			r = x
		}
	}
	above := d - r.least
	out := []byte{r.from + byte(above/r.width)}
	above %= r.width
	for k := range r.trails {
		weight := []int{1, 243, 59049}[r.trails-1-k]
		out = append(out, trails[above/weight])
		above %= weight
	}
	return string(out)
}

// prev: what the next scalar is held against behind one above 20.
func prev(c uint32) int {
	switch {
	case 0x3040 <= c && c <= 0x309F:
		return 0x3070
	case 0x4E00 <= c && c <= 0x9FA5:
		return 0x7711
	case 0xAC00 <= c && c <= 0xD7A3:
		return 0xC1D1
	}
	return int(c)/0x80*0x80 + 0x40
}

// next: what the next scalar is held against behind c, if c was against p.
func next(c uint32, p int) int {
	switch {
	case c == 0x20:
		return p
	case c < 0x20:
		return 0x40
	}
	return prev(c)
}

// spelt: a scalar's bytes, held against p.
func spelt(c uint32, p int) string {
	if c <= 0x20 {
		return string([]byte{byte(c)})
	}
	return packed(int(c) - p)
}

// speltAll: the text of a list, and what the next scalar is held against.
func speltAll(l []uint32) (string, int) {
	var b strings.Builder
	p := 0x40
	for _, c := range l {
		b.WriteString(spelt(c, p))
		p = next(c, p)
	}
	return b.String(), p
}

// text: the text of a list alone.
func text(l []uint32) string {
	s, _ := speltAll(l)
	return s
}

// isScalar: what layer 1's chapter says that a scalar is.
func isScalar(c uint32) bool { return c <= 0xD7FF || c >= 0xE000 && c <= 0x10FFFF }

// scalars: how many there are; above: how many above 20.
const (
	scalars = 0x110000 - 0x800
	above   = scalars - 0x21
)

// nth: the scalar above 20 with so many of them ahead.
func nth(i int) uint32 {
	if c := i + 0x21; c < 0xD800 {
		return uint32(c)
	}
	return uint32(i + 0x21 + 0x800)
}

// eachScalar calls f with all of them, the least one first.
func eachScalar(f func(c uint32)) {
	for c := range uint32(0x110000) {
		if isScalar(c) {
			f(c)
		}
	}
}

// least: the least scalar above 20 whose bytes, held against p, begin so; and
// whether there is one. Bytes compare as scalars do, so it can be searched for.
func least(s string, p int) (uint32, bool) {
	i := sort.Search(above, func(i int) bool { return packed(int(nth(i))-p) >= s })
	if i == above || !strings.HasPrefix(packed(int(nth(i))-p), s) {
		return 0, false
	}
	return nth(i), true
}

// told is what is to be known of a text: which scalar is complete with which
// byte, at which byte it goes wrong (its length, if it doesn't), and whether a
// difference is open there.
type told struct {
	complete map[int]uint32
	bad      int
	open     bool
}

func facts(s string) told {
	f := told{complete: map[int]uint32{}}
	p, from := 0x40, 0
	for i := range len(s) {
		c := uint32(s[i])
		switch {
		case from < i || c > 0x20 && c < 0xFF:
			var ok bool
			if c, ok = least(s[from:i+1], p); !ok {
				f.bad = i
				return f
			}
			f.open = spelt(c, p) != s[from:i+1]
		case c == 0xFF:
			p, from = 0x40, i+1
			continue
		}
		if !f.open {
			f.complete[i] = c
			p, from = next(c, p), i+1
		}
	}
	f.bad = len(s)
	return f
}

// end: how a text ends.
func (f told) end(s string) api.Fail {
	switch {
	case f.bad < len(s):
		return form(f.bad)
	case f.open:
		return cut(f.bad)
	}
	return api.Fail{}
}

// list: all scalars that are told.
func (f told) list() []uint32 {
	var l []uint32
	for i := range f.bad {
		if c, ok := f.complete[i]; ok {
			l = append(l, c)
		}
	}
	return l
}

// edges: the ends of what lies between, scalars of all kinds.
var edges = []uint32{
	0, 0xA, 0x1F, 0x20, 0x21, 0x40, 0x41, 0x7F, 0x80, 0xFF, 0x416, 0x20AC, 0x2950, 0x2951, 0x303F, 0x3040, 0x309F, 0x30A0,
	0x4DFF, 0x4E00, 0x7711, 0x9FA5, 0x9FA6, 0xABFF, 0xAC00, 0xD7A3, 0xD7A4, 0xD7FF, 0xE000, 0xFEFF, 0xFFFF, 0x10000, 0x2DD4B, 0x2DD4C, 0x10FFFF,
}

// leaders: lists, and what the next scalar is held against behind them.
var leaders = []struct {
	l []uint32
	p int
}{
	{nil, 0x40},
	{[]uint32{0x3041}, 0x3070},
	{[]uint32{0x9FA5}, 0x7711},
	{[]uint32{0xAC00, 0x20}, 0xC1D1},
	{[]uint32{0xD7FF}, 0xD7C0},
	{[]uint32{0x10FFFF}, 0x10FFC0},
	{[]uint32{0x10FFFF, 0x1F}, 0x40},
	{[]uint32{0xE000, 0x20, 0x20}, 0xE040},
	{[]uint32{0x1C0}, 0x1C0},
	{[]uint32{0x2DD7F}, 0x2DD40},
}

// rooms: below 1, 1, few, more than enough.
var rooms = []int{math.MinInt, -1, 0, 1, 2, 3, 4, 5, 7, 1000, math.MaxInt}

// decoder is all that a decoder tells of itself.
type decoder struct {
	at   int
	fail api.Fail
	done bool
}

func decoderOf(d *bocu.Decoder) decoder { return decoder{d.At(), d.Fail(), d.Done()} }

// encoder is all that an encoder tells of itself.
type encoder struct {
	at   int
	fail api.Fail
	done bool
	kept int
}

func encoderOf(e *bocu.Encoder) encoder { return encoder{e.At(), e.Fail(), e.Done(), e.Kept()} }

// form, cut and wrong: what goes wrong, and where.
func form(at int) api.Fail  { return api.Fail{Err: api.ErrForm, At: at} }
func cut(at int) api.Fail   { return api.Fail{Err: api.ErrCut, At: at} }
func wrong(at int) api.Fail { return api.Fail{Err: api.ErrScalar, At: at} }

// read: what a whole text tells, and how it ends.
func read(s string) ([]uint32, api.Fail) {
	d := bocu.NewDecoder()
	_, l := d.Feed(s, math.MaxInt)
	d.End()
	return l, d.Fail()
}

// write: what is made of a whole list, and how it ends.
func write(l []uint32) (string, api.Fail) {
	e := bocu.NewEncoder()
	_, s := e.Feed(l, math.MaxInt)
	e.End()
	return s, e.Fail()
}

// source is numbers without any order to be seen, the same in each run.
type source uint64

func (r *source) below(n int) int {
	*r = *r*6364136223846793005 + 1442695040888963407
	return int((uint64(*r) >> 33) % uint64(n))
}

// scalar: of any kind, the edges often.
func (r *source) scalar() uint32 {
	switch r.below(6) {
	case 0:
		return uint32(r.below(0x21))
	case 1:
		return uint32(0x21 + r.below(0x400))
	case 2:
		return edges[r.below(len(edges))]
	case 3:
		return uint32(0x3000 + r.below(0x7000))
	}
	return nth(r.below(above))
}

// list: so many scalars at most.
func (r *source) list(most int) []uint32 {
	l := make([]uint32, r.below(most+1))
	for i := range l {
		l[i] = r.scalar()
	}
	return l
}

// text: bytes of any kind, so many at most; those of rows with trail bytes are
// as frequent as those without.
func (r *source) text(most int) string {
	s := make([]byte, r.below(most+1))
	for i := range s {
		switch r.below(8) {
		case 0:
			s[i] = byte(r.below(0x21))
		case 1:
			s[i] = "\x21\x22\x24\x25\x4E\x4F\x50\xCF\xD0\xD1\xFA\xFB\xFD\xFE\xFF\xFF"[r.below(16)]
		case 2:
			s[i] = byte(r.below(256))
		case 3:
			s[i] = byte(0xD0 + r.below(8))
		default:
			s[i] = byte(0x71 + r.below(0x5F))
		}
	}
	return string(s)
}

// The chapters' words as these tests have them: what they rest on.
func TestWords(t *testing.T) {
	if len(trails) != 243 || trails[0] != 0x01 || trails[6] != 0x10 || trails[16] != 0x1C || trails[20] != 0x21 || trails[242] != 0xFF {
		t.Errorf("% X", trails)
	}
	for i, r := range table[1:] {
		if last := table[i]; last.least+int(last.to-last.from+1)*last.width != r.least || last.to+1 != r.from {
			t.Errorf("%v behind %v", r, last)
		}
	}
	if nth(0) != 0x21 || nth(above-1) != 0x10FFFF || nth(0xD7FF-0x21) != 0xD7FF || nth(0xD800-0x21) != 0xE000 {
		t.Error("which scalar is the n-th")
	}
	for _, x := range leaders {
		if _, p := speltAll(x.l); p != x.p {
			t.Errorf("behind %X: %X, not %X", x.l, p, x.p)
		}
	}
}

func TestExamples(t *testing.T) {
	for _, x := range []struct {
		l []uint32
		s string
	}{
		{[]uint32{0xFEFF}, "\xFB\xEE\x28"},
		{[]uint32{0x41, 0x42}, "\x91\x92"},
		{[]uint32{0x0A}, "\x0A"},
		{[]uint32{0x3042, 0x3044}, packed(0x3002) + "\x64"},
		{[]uint32{0x416, 0x436, 0x0A, 0x41}, "\xD3\xCA\x86\x0A\x91"},
	} {
		if s, f := write(x.l); s != x.s || f != (api.Fail{}) {
			t.Errorf("%X: % X, %v", x.l, s, f)
		}
		if l, f := read(x.s); !slices.Equal(l, x.l) || f != (api.Fail{}) {
			t.Errorf("% X: %X, %v", x.s, l, f)
		}
	}
	for _, x := range []struct {
		s string
		f api.Fail
	}{{"\xFB", cut(1)}, {"\x50", form(0)}, {"\x4F", form(0)}, {"\xFE\xFF", form(1)}} {
		if l, f := read(x.s); len(l) != 0 || f != x.f {
			t.Errorf("% X: %X, %v", x.s, l, f)
		}
	}
}

func TestP121New(t *testing.T) {
	d := bocu.NewDecoder()
	if decoderOf(d) != (decoder{}) {
		t.Error(decoderOf(d))
	}
	if n, l := d.Feed("", 9); n != 0 || len(l) != 0 || decoderOf(d) != (decoder{}) {
		t.Error(n, l, decoderOf(d))
	}
	d.End()
	if decoderOf(d) != (decoder{done: true}) {
		t.Error("the empty text denotes no scalars:", decoderOf(d))
	}
}

// known: lists, and their texts, written out: the ends of each row, and what a
// scalar is held against.
var known = []struct {
	l []uint32
	s string
}{
	{nil, ""},
	{[]uint32{0}, "\x00"},
	{[]uint32{0x20}, "\x20"},
	{[]uint32{0x21}, "\x71"},
	{[]uint32{0x40}, "\x90"},
	{[]uint32{0x7F}, "\xCF"},
	{[]uint32{0x80}, "\xD0\x01"},
	{[]uint32{0x2950}, "\xFA\xFF"},
	{[]uint32{0x2951}, "\xFB\x01\x01"},
	{[]uint32{0x2DD4B}, "\xFD\xFF\xFF"},
	{[]uint32{0x2DD4C}, "\xFE\x01\x01\x01"},
	{[]uint32{0xD7FF}, "\xFB\xC5\x10"},
	{[]uint32{0xE000}, "\xFB\xCD\x7C"},
	{[]uint32{0x10FFFF}, "\xFE\x19\xB4\x54"},
	{[]uint32{0x10FFFF, 0x10FF80}, "\xFE\x19\xB4\x54\x50"},
	{[]uint32{0x10FFFF, 0x10FF7F}, "\xFE\x19\xB4\x54\x4F\xFF"},
	{[]uint32{0x10FFFF, 0x10FFC0 - 10513}, "\xFE\x19\xB4\x54\x25\x01"},
	{[]uint32{0x10FFFF, 0x10FFC0 - 10514}, "\xFE\x19\xB4\x54\x24\xFF\xFF"},
	{[]uint32{0x10FFFF, 0x10FFC0 - 187660}, "\xFE\x19\xB4\x54\x22\x01\x01"},
	{[]uint32{0x10FFFF, 0x10FFC0 - 187661}, "\xFE\x19\xB4\x54\x21\xFF\xFF\xFF"},
	{[]uint32{0x10FFFF, 0x21}, "\xFE\x19\xB4\x54\x21\xF0\x58\xD9"},
	{[]uint32{0x41, 0x20, 0x416, 0x436, 0xA, 0x42}, "\x91\x20\xD3\xCA\x86\x0A\x92"},
	{[]uint32{0x416, 0x20, 0x436}, "\xD3\xCA\x20\x86"},
	{[]uint32{0x416, 0x1F, 0x436}, "\xD3\xCA\x1F\xD3\xEA"},
	{[]uint32{0xFF, 0x80}, "\xD0\x8C\x50"},
	{[]uint32{0xFF, 0x7F}, "\xD0\x8C\x4F\xFF"},
	{[]uint32{0xFF, 0x21}, "\xD0\x8C\x4F\xA1"},
}

func TestP121Known(t *testing.T) {
	for _, x := range known {
		d := bocu.NewDecoder()
		if n, l := d.Feed(x.s, len(x.l)+1); n != len(x.s) || !slices.Equal(l, x.l) || decoderOf(d) != (decoder{at: n}) {
			t.Errorf("% X: %d, %X, %v", x.s, n, l, decoderOf(d))
		}
		d.End()
		if got := decoderOf(d); got != (decoder{at: len(x.s), done: true}) {
			t.Errorf("% X, and End: %v", x.s, got)
		}
	}
}

// Behind each scalar up to 20 comes the difference 0, and tells what it is held
// against.
func TestP121UpTo20(t *testing.T) {
	for c := range uint32(0x21) {
		for _, x := range leaders {
			p := 0x40
			if c == 0x20 {
				p = x.p
			}
			want := append(slices.Clone(x.l), c, uint32(p))
			s := text(x.l) + string([]byte{byte(c), 0x90})
			if l, f := read(s); !slices.Equal(l, want) || f != (api.Fail{}) {
				t.Errorf("% X: %X, %v, not %X", s, l, f, want)
			}
		}
	}
}

// Behind every scalar the difference 0 tells what it is held against.
func TestP121Against(t *testing.T) {
	eachScalar(func(c uint32) {
		p := uint32(next(c, 0x40))
		if l, f := read(spelt(c, 0x40) + "\x90"); !slices.Equal(l, []uint32{c, p}) || f != (api.Fail{}) {
			t.Fatalf("behind %X: %X, %v, not %X", c, l, f, p)
		}
	})
}

// FF is no scalar; behind it the next one is held against 40. Behind a beginning
// of a difference it is one of its bytes.
func TestP121FF(t *testing.T) {
	for _, x := range []struct {
		s string
		l []uint32
		f api.Fail
	}{
		{"\xFF", nil, api.Fail{}},
		{"\xFF\xFF\xFF\xFF\xFF", nil, api.Fail{}},
		{"\xFF\x91", []uint32{0x41}, api.Fail{}},
		{"\x91\xFF", []uint32{0x41}, api.Fail{}},
		{"\xD3\xCA\xFF", []uint32{0x416}, api.Fail{}},
		{"\xD3\xCA\xFF\x91", []uint32{0x416, 0x41}, api.Fail{}},
		{"\xD3\xCA\xFF\xFF\xFF\x91\xFF", []uint32{0x416, 0x41}, api.Fail{}},
		{"\xD3\xCA\x20\xFF\x86", []uint32{0x416, 0x20, 0x36}, api.Fail{}},
		{"\xD3\xCA\xFF\x20\x86", []uint32{0x416, 0x20, 0x36}, api.Fail{}},
		{"\xD3\xCA\xFF\x0A\x86", []uint32{0x416, 0xA, 0x36}, api.Fail{}},
		{"\xD3\xCA\xFF\x50", []uint32{0x416}, form(3)},
		{"\xD3\xCA\xFF\x4F\xFF", []uint32{0x416}, form(3)},
		{"\xFF\xD3\xFF", []uint32{0x40 + 64 + 3*243 + 242}, api.Fail{}},
		{"\xD3\xFF", []uint32{0x40 + 64 + 3*243 + 242}, api.Fail{}},
		{"\xD3\xFF\xFF", []uint32{0x40 + 64 + 3*243 + 242}, api.Fail{}},
		{"\xD3\xFF\xFF\x91", []uint32{0x40 + 64 + 3*243 + 242, 0x41}, api.Fail{}},
		{"\xFB\xFF", nil, cut(2)},
		{"\xFB\x01\xFF\xFF", []uint32{0x2951 + 242}, api.Fail{}},
		{"\xFC\xFF\xFF", []uint32{0x40 + 10513 + 2*59049 - 1}, api.Fail{}},
		{"\xFE\x01\xFF\xFF\xFF", []uint32{0x40 + 187660 + 59048}, api.Fail{}},
		{"\xFE\xFF", nil, form(1)},
		{"\x91\xFE\xFF", []uint32{0x41}, form(2)},
		{"\xFF\xFE", nil, cut(2)},
		{"\xFF\x21", nil, form(1)},
	} {
		if l, f := read(x.s); !slices.Equal(l, x.l) || f != x.f {
			t.Errorf("% X: %X, %v", x.s, l, f)
		}
		if f := facts(x.s); !slices.Equal(f.list(), x.l) || f.end(x.s) != x.f {
			t.Errorf("% X by the chapter's words: %X, %v", x.s, f.list(), f.end(x.s))
		}
	}
}

// FF is eaten only where there is room, as other bytes are.
func TestP121FFAndRoom(t *testing.T) {
	d := bocu.NewDecoder()
	if n, l := d.Feed("\xFF\xFF\x91\xFF\xFF\x92", 1); n != 3 || !slices.Equal(l, []uint32{0x41}) || decoderOf(d) != (decoder{at: 3}) {
		t.Error(n, l, decoderOf(d))
	}
	if n, l := d.Feed("\xFF\xFF\x92", 0); n != 0 || len(l) != 0 || decoderOf(d) != (decoder{at: 3}) {
		t.Error(n, l, decoderOf(d))
	}
	if n, l := d.Feed("\xFF\xFF", 1); n != 2 || len(l) != 0 || decoderOf(d) != (decoder{at: 5}) {
		t.Error(n, l, decoderOf(d))
	}
	if n, l := d.Feed("\x92\xFF", 2); n != 2 || !slices.Equal(l, []uint32{0x42}) || decoderOf(d) != (decoder{at: 7}) {
		t.Error(n, l, decoderOf(d))
	}
	d.End()
	if decoderOf(d) != (decoder{at: 7, done: true}) {
		t.Error(decoderOf(d))
	}
}

// Each first byte's least and greatest difference lead to where they must.
func TestP121EveryFirstByte(t *testing.T) {
	for _, r := range table[1 : len(table)-1] {
		for b := int(r.from); b <= int(r.to); b++ {
			lo := r.least + (b-int(r.from))*r.width
			for _, d := range []int{lo, lo + r.width/2, lo + r.width - 1} {
				// So far from all that is no scalar that every such sum is one.
				ahead, p := []uint32{0x80000}, 0x80040
				s := string([]byte{byte(b)}) + strings.Repeat("\x01", r.trails)
				if d == lo+r.width-1 {
					s = string([]byte{byte(b)}) + strings.Repeat("\xFF", r.trails)
				}
				if d == lo+r.width/2 && r.trails > 0 {
					s = packed(d)
				}
				l, f := read(text(ahead) + s)
				if !slices.Equal(l, []uint32{0x80000, uint32(p + d)}) || f != (api.Fail{}) {
					t.Errorf("% X behind %X: %X, %v, not %X", s, ahead, l, f, p+d)
				}
			}
		}
	}
}

// beginnings: all that differences' bytes begin with, but are not, whose
// scalars, held against p, are above 20.
func beginnings(p int) map[string]bool {
	m := map[string]bool{}
	last := ""
	for i := range above {
		s := packed(int(nth(i)) - p)
		if s[:len(s)-1] != last {
			last = s[:len(s)-1]
			for i := 1; i < len(s); i++ {
				m[s[:i]] = true
			}
		}
	}
	return m
}

// With every byte behind every beginning, the text is right so far just if it
// is such a beginning again, or a scalar's bytes; and all scalars are met.
func TestP121EveryByteBehindEveryBeginning(t *testing.T) {
	for _, x := range leaders {
		if x.p == 0x40 && len(x.l) > 0 {
			continue
		}
		t.Run(fmt.Sprintf("%X", x.p), func(t *testing.T) {
			t.Parallel()
			begin := beginnings(x.p)
			met := map[uint32]bool{}
			ahead := text(x.l)
			everyByte(t, ahead, "", x.p, begin, met)
			for s := range begin {
				everyByte(t, ahead, s, x.p, begin, met)
			}
			if len(met) != scalars {
				t.Error(len(met), "scalars were read")
			}
		})
	}
}

// everyByte: with each byte behind a beginning, held against p.
func everyByte(t *testing.T, ahead, begun string, p int, begin map[string]bool, met map[uint32]bool) {
	t.Helper()
	at := bocu.NewDecoder()
	at.Feed(ahead+begun, 99)
	for b := range 256 {
		s := begun + string([]byte{byte(b)})
		d := bocu.NewDecoder()
		d.Feed(ahead+begun, 99)
		n, l := d.Feed(s[len(begun):], 9)
		got := decoderOf(d)
		whole := len(ahead) + len(s)
		switch {
		case begin[s] || s == "\xFF":
			if n != 1 || len(l) != 0 || got != (decoder{at: whole}) {
				t.Fatalf("% X, a beginning: %d, %X, %v", s, n, l, got)
			}
		case len(l) == 1:
			met[l[0]] = true
			if n != 1 || !isScalar(l[0]) || spelt(l[0], p) != s || got != (decoder{at: whole}) {
				t.Fatalf("% X: %d, %X, %v", s, n, l, got)
			}
		default:
			if n != 0 || len(l) != 0 || got != (decoder{whole - 1, form(whole - 1), true}) {
				t.Fatalf("% X, no beginning: %d, %X, %v", s, n, l, got)
			}
		}
	}
}

// followers: all numbers that a scalar can be held against, each with a scalar
// that it comes behind.
func followers() map[int]uint32 {
	m := map[int]uint32{}
	for i := range above {
		c := nth(i)
		m[prev(c)] = c
	}
	return m
}

// borders: the ends of what is a scalar above 20, and of what isn't.
var borders = []int{-0x100, -1, 0, 0x1F, 0x20, 0x21, 0x22, 0xD7FE, 0xD7FF, 0xD800, 0xD801, 0xDC00, 0xDFFE, 0xDFFF, 0xE000, 0xE001, 0x10FFFE, 0x10FFFF, 0x110000, 0x110001, 0x110100}

// Held against each number, the bytes that would lead to a border's number go
// wrong at the first byte with which no scalar above 20 can come.
func TestP121EveryNumberAndBorder(t *testing.T) {
	for p, c := range followers() {
		ahead := spelt(c, 0x40)
		for _, to := range borders {
			s := packed(to - p)
			want := len(ahead)
			for i := 1; i <= len(s) && some(s[:i], p); i++ {
				want++
			}
			d := bocu.NewDecoder()
			n, l := d.Feed(ahead+s, 9)
			if n != want || l[0] != c {
				t.Fatalf("%X, held against %X: % X: %d, %X, not %d", to, p, s, n-len(ahead), l, want-len(ahead))
			}
			whole := want == len(ahead)+len(s)
			if got := decoderOf(d); whole && got != (decoder{at: n}) || !whole && got != (decoder{n, form(n), true}) {
				t.Fatalf("%X, held against %X: % X: %v", to, p, s, got)
			}
			if is := to > 0x20 && isScalar(uint32(to)); is != whole || is && !slices.Equal(l, []uint32{c, uint32(to)}) || !is && len(l) != 1 {
				t.Fatalf("%X, held against %X: % X: %X", to, p, s, l)
			}
		}
	}
}

// some: does a difference's beginning lead to a scalar above 20, held against
// p? The differences are counted, and those that lead to none.
func some(s string, p int) bool {
	r := table[slices.IndexFunc(table, func(r row) bool { return r.from <= s[0] && s[0] <= r.to })]
	width := r.width
	lo := p + r.least + int(s[0]-r.from)*width
	for i := 1; i < len(s); i++ {
		width /= 243
		lo += strings.IndexByte(trails, s[i]) * width
	}
	n := width
	for _, none := range [][2]int{{math.MinInt, 0x20}, {0xD800, 0xDFFF}, {0x110000, math.MaxInt}} {
		from, to := max(lo, none[0]), min(lo+width-1, none[1])
		if from <= to {
			n -= to - from + 1
		}
	}
	return n > 0
}

// All texts of one byte, and of two, behind some others.
func TestP121ShortTexts(t *testing.T) {
	for _, ahead := range []string{"", "\x0A", "\x20", "\xD3\xCA", "\xD3\xCA\x20", "\xFB", "\xFF", text([]uint32{0x10FFFF}), text([]uint32{0xD7FF})} {
		check := func(s string) {
			f := facts(s)
			d := bocu.NewDecoder()
			n, l := d.Feed(s, 9)
			d.End()
			if n != f.bad || !slices.Equal(l, f.list()) || decoderOf(d) != (decoder{f.bad, f.end(s), true}) {
				t.Fatalf("% X: %d, %X, %v, not %d, %X, %v", s, n, l, decoderOf(d), f.bad, f.list(), f.end(s))
			}
		}
		for a := range 256 {
			check(ahead + string([]byte{byte(a)}))
			for b := range 256 {
				if ahead == "" || b%5 == 0 || b < 0x28 || b > 0xF8 {
					check(ahead + string([]byte{byte(a), byte(b)}))
				}
			}
		}
	}
}

func TestP121MixedTexts(t *testing.T) {
	r := source(121)
	ways := map[api.Errno]int{}
	for range 60000 {
		s := r.text(14)
		f := facts(s)
		if l, got := read(s); !slices.Equal(l, f.list()) || got != f.end(s) {
			t.Fatalf("% X: %X, %v, not %X, %v", s, l, got, f.list(), f.end(s))
		}
		ways[f.end(s).Err]++
	}
	if ways[api.OK] < 3000 || ways[api.ErrForm] < 3000 || ways[api.ErrCut] < 1000 {
		t.Error(ways)
	}
}

// broken: texts that go wrong at a byte, held against 40, and where.
var broken = []struct {
	s  string
	at int
}{
	// All lead to numbers up to 20, or below 0.
	{"\x50", 0}, {"\x51", 0}, {"\x6F", 0}, {"\x70", 0}, {"\x4F", 0}, {"\x4F\xFF", 0}, {"\x25\x01", 0}, {"\x24\xFF\xFF", 0}, {"\x22", 0}, {"\x21", 0}, {"\x21\xFF\xFF\xFF", 0},
	// All lead to D800 to DFFF, or just one does.
	{"\xFB\xC6", 1}, {"\xFB\xCC", 1}, {"\xFB\xC5\x11", 2}, {"\xFB\xC5\xFF", 2}, {"\xFB\xCD\x01", 2}, {"\xFB\xCD\x7B", 2},
	// All lead above 10FFFF, or just one does.
	{"\xFE\xFF", 1}, {"\xFE\x1C", 1}, {"\xFE\x19\xB5", 2}, {"\xFE\x19\xFF", 2}, {"\xFE\x19\xB4\x55", 3}, {"\xFE\x19\xB4\xFF", 3},
	// What is no trail byte.
	{"\xD0\x00", 1}, {"\xD3\x07", 1}, {"\xD3\x0A", 1}, {"\xD3\x0F", 1}, {"\xFA\x1A", 1}, {"\xFA\x1B", 1}, {"\xFA\x20", 1},
	{"\xFB\x00", 1}, {"\xFC\x20", 1}, {"\xFB\x01\x07", 2}, {"\xFD\xFF\x20", 2}, {"\xFB\xEE\x0D", 2},
	{"\xFE\x09", 1}, {"\xFE\x01\x08", 2}, {"\xFE\x01\x01\x0E", 3}, {"\xFE\x19\xB4\x20", 3}, {"\xFE\x19\x20", 2},
}

// What is complete ahead of a wrong byte is told, in the call that fails, too.
func TestP121Broken(t *testing.T) {
	for _, x := range broken {
		for _, ahead := range [][]uint32{{}, {0x41}, {0x10FFFF, 0, 0x20, 0x7F}, {0x416, 0x20, 0xA}} {
			for _, reset := range []string{"", "\xFF", "\xFF\xFF"} {
				s := text(ahead) + reset + x.s + "\x91\xFF"
				at := len(text(ahead)+reset) + x.at
				d := bocu.NewDecoder()
				n, l := d.Feed(s, 99)
				if n != at || !slices.Equal(l, ahead) || decoderOf(d) != (decoder{at, form(at), true}) {
					t.Errorf("% X: %d, %X, %v, not %d", s, n, l, decoderOf(d), at)
				}
			}
		}
	}
}

// Behind each beginning the bytes that are no trail bytes are wrong, and the
// beginning stays eaten.
func TestP121NoTrailBytes(t *testing.T) {
	for _, x := range leaders {
		for _, c := range edges {
			s := spelt(c, x.p)
			for i := 1; i < len(s); i++ {
				for _, b := range kept {
					whole := text(x.l) + s[:i] + string([]byte{b})
					at := len(whole) - 1
					d := bocu.NewDecoder()
					if n, l := d.Feed(whole, 99); n != at || !slices.Equal(l, x.l) || decoderOf(d) != (decoder{at, form(at), true}) {
						t.Errorf("% X: %d, %X, %v", whole, n, l, decoderOf(d))
					}
				}
			}
		}
	}
}

// A text that ends behind some of a difference's bytes is right so far, and
// denotes nothing.
func TestP121Cut(t *testing.T) {
	lengths := map[int]int{}
	for _, x := range leaders {
		begun := []string{}
		for _, c := range edges {
			for i := 1; i < len(spelt(c, x.p)); i++ {
				begun = append(begun, spelt(c, x.p)[:i])
			}
		}
		for _, s := range begun {
			lengths[len(s)]++
			whole := text(x.l) + s
			d := bocu.NewDecoder()
			if n, l := d.Feed(whole, 99); n != len(whole) || !slices.Equal(l, x.l) || decoderOf(d) != (decoder{at: n}) {
				t.Errorf("% X: %d, %X, %v", whole, n, l, decoderOf(d))
			}
			d.End()
			if got := decoderOf(d); got != (decoder{len(whole), cut(len(whole)), true}) {
				t.Errorf("% X, and End: %v", whole, got)
			}
		}
	}
	if len(lengths) != 3 || lengths[3] < 10 {
		t.Error(lengths)
	}
}

// texts: right ones, such as are cut off, and such as go wrong.
func texts() []string {
	l := []string{
		"", "\x91", "\x91\x92\x93", "\x0A\x91\x20", "\xD3\xCA\x86\x0A\x91", "\xFB\xEE\x28\x90",
		"\xFF", "\xFF\x91\xFF\xFF\xD3\xCA\xFF\x91\xFF", "\xD3\xFF\xFF\xFF\x91", "\xFE\x01\xFF\xFF\xFF\x91",
		"\xFB", "\x91\xFB\xFF", "\xD3\xCA\xD3", "\xFE\x19\xB4", "\x20\xFE", "\xD3\xCA\xFF\xFC\x01",
		"\x50", "\x91\x4F", "\x91\x92\x21", "\xD3\xCA\xFF\x70\x91", "\xFE\xFF", "\x91\xFE\x19\xB5", "\xFE\x19\xB4\x55\x91", "\xFB\xC5\x10\x91\xFB\xC6", "\x91\xD3\x07\x91", "\xFF\xFB\x01\x20",
		text([]uint32{0x10FFFF, 0x21, 0x20, 0x10FFFF, 0x10FFFF}), text(edges[:18]), text(edges[18:]),
	}
	return l
}

// feedParts hands a text to a decoder in parts that end at the given places,
// each one so often till nothing is eaten of it any more, with the rooms in
// turn; and holds each answer against the facts. It tells all that was told.
func feedParts(t *testing.T, s string, f told, ends []int, turn []int) []uint32 {
	t.Helper()
	d := bocu.NewDecoder()
	var all []uint32
	at, calls := 0, 0
	for _, end := range append(ends, len(s)) {
		for more := true; more; calls++ {
			room := turn[calls%len(turn)]
			var want []uint32
			to, failed := at, false
			for to < end && len(want) < room && !failed {
				if failed = to == f.bad; !failed {
					if c, ok := f.complete[to]; ok {
						want = append(want, c)
					}
					to++
				}
			}
			failed = failed || d.Fail() != api.Fail{}
			n, l := d.Feed(s[at:end], room)
			if n != to-at || !slices.Equal(l, want) || d.At() != to {
				t.Fatalf("% X from %d to %d, room %d: %d, %X, at %d, not %d, %X", s, at, end, room, n, l, d.At(), to-at, want)
			}
			if got := decoderOf(d); failed && got != (decoder{f.bad, form(f.bad), true}) || !failed && got != (decoder{at: to}) {
				t.Fatalf("% X up to %d: %v", s, to, got)
			}
			all = append(all, l...)
			more = at < end && !failed && (n > 0 || room < 1)
			at = to
		}
	}
	d.End()
	if want := (decoder{f.bad, f.end(s), true}); decoderOf(d) != want {
		t.Fatalf("% X, and End: %v, not %v", s, decoderOf(d), want)
	}
	return all
}

func TestP121PartsAndRooms(t *testing.T) {
	turns := [][]int{{math.MaxInt}, {1}, {2}, {3}, {0, 1}, {-1, 2, 1}, {1, 5, math.MinInt}}
	for _, s := range texts() {
		whole, _ := read(s)
		f := facts(s)
		for i := range len(s) + 1 {
			for j := i; j <= len(s); j++ {
				for _, turn := range turns {
					if got := feedParts(t, s, f, []int{i, j}, turn); !slices.Equal(got, whole) {
						t.Fatalf("% X, cut at %d and %d: %X, not %X", s, i, j, got, whole)
					}
				}
			}
		}
	}
}

// Bytes of a scalar that isn't complete take no room.
func TestP121RoomIsOfScalars(t *testing.T) {
	d := bocu.NewDecoder()
	for i, b := range []string{"\xFE", "\x19", "\xB4"} {
		if n, l := d.Feed(b, 1); n != 1 || len(l) != 0 || decoderOf(d) != (decoder{at: i + 1}) {
			t.Error(i, n, l, decoderOf(d))
		}
	}
	if n, l := d.Feed("\x54\x90", 1); n != 1 || !slices.Equal(l, []uint32{0x10FFFF}) {
		t.Error(n, l)
	}
	if n, l := d.Feed("\x4F", 1); n != 1 || len(l) != 0 || d.At() != 5 {
		t.Error(n, l)
	}
	if n, l := d.Feed("\xFF\xFF", 1); n != 1 || !slices.Equal(l, []uint32{0x10FF7F}) || decoderOf(d) != (decoder{at: 6}) {
		t.Error(n, l, decoderOf(d))
	}
}

// Without room no byte is looked at, not even a wrong one.
func TestP121NoRoom(t *testing.T) {
	for _, s := range append(texts(), "\xFF\xFF", "\x50\x50") {
		for _, room := range []int{0, -1, math.MinInt} {
			d := bocu.NewDecoder()
			if n, l := d.Feed(s, room); n != 0 || len(l) != 0 || decoderOf(d) != (decoder{}) {
				t.Errorf("% X, room %d: %d, %X, %v", s, room, n, l, decoderOf(d))
			}
		}
	}
	d := bocu.NewDecoder()
	if n, l := d.Feed("\x91\x50", 1); n != 1 || !slices.Equal(l, []uint32{0x41}) || decoderOf(d) != (decoder{at: 1}) {
		t.Error("behind the last scalar that there is room for:", n, l, decoderOf(d))
	}
	if n, l := d.Feed("\x50", 0); n != 0 || len(l) != 0 || decoderOf(d) != (decoder{at: 1}) {
		t.Error("without room:", n, l, decoderOf(d))
	}
	if n, l := d.Feed("\x50", 1); n != 0 || len(l) != 0 || decoderOf(d) != (decoder{1, form(1), true}) {
		t.Error("with room:", n, l, decoderOf(d))
	}
}

// stays: whatever is called, such a decoder is as it was, and tells nothing.
func stays(t *testing.T, d *bocu.Decoder, how string) {
	t.Helper()
	was := decoderOf(d)
	for range 2 {
		for _, s := range []string{"", "\x91", "\x0A", "\xFF", "\x01", "\x54", "\xFB\xEE\x28", "\xFE\x19\xB4\x54", "\x50"} {
			for _, room := range rooms {
				if n, l := d.Feed(s, room); n != 0 || len(l) != 0 || decoderOf(d) != was {
					t.Errorf("%s, then % X: %d, %X, %v", how, s, n, l, decoderOf(d))
				}
			}
		}
		d.End()
		if decoderOf(d) != was {
			t.Errorf("%s, then End: %v, not %v", how, decoderOf(d), was)
		}
	}
}

func TestP121BehindAFailure(t *testing.T) {
	for _, x := range broken {
		d := bocu.NewDecoder()
		d.Feed("\x91"+x.s, 9)
		if decoderOf(d) != (decoder{x.at + 1, form(x.at + 1), true}) {
			t.Errorf("% X: %v", x.s, decoderOf(d))
		}
		stays(t, d, fmt.Sprintf("91 % X", x.s))
	}
	for at := 2; at < 5; at++ {
		d := bocu.NewDecoder()
		d.Feed("\x91\xFE\x19\xB4"[:at], 9)
		d.End()
		if decoderOf(d) != (decoder{at, cut(at), true}) {
			t.Error(decoderOf(d))
		}
		stays(t, d, "cut off")
	}
}

func TestP121BehindAnEnd(t *testing.T) {
	for _, s := range []string{"", "\x91", "\x20", "\xFF", "\xFB\xEE\x28", "\xFE\x19\xB4\x54\x00", "\xD3\xFF\xFF"} {
		d := bocu.NewDecoder()
		d.Feed(s, 9)
		d.End()
		if decoderOf(d) != (decoder{at: len(s), done: true}) {
			t.Errorf("% X: %v", s, decoderOf(d))
		}
		stays(t, d, fmt.Sprintf("% X, ended", s))
	}
}

// What one call told isn't touched by the next ones, nor they by what is done to it.
func TestP121WhatIsToldIsNewMemory(t *testing.T) {
	d := bocu.NewDecoder()
	_, first := d.Feed("\x91\x92\x93\x94\x95", 2)
	was := slices.Clone(first)
	_, second := d.Feed("\x93\x94\x95", 2)
	if !slices.Equal(first, was) || !slices.Equal(second, []uint32{'C', 'D'}) {
		t.Error(first, second)
	}
	first[0] = 7
	_ = append(first, 8, 9)
	second[1] = 6
	_ = append(second[:0], 5, 5, 5, 5)
	if _, third := d.Feed("\x95\xFB\xEE\x28", 2); !slices.Equal(third, []uint32{'E', 0xFEFF}) {
		t.Error(third)
	}
	if first[1] != 'B' {
		t.Error(first)
	}
}

func TestP121DecodersAreForThemselves(t *testing.T) {
	a, b := bocu.NewDecoder(), bocu.NewDecoder()
	a.Feed("\xFB", 9)
	b.Feed("\xFE\x19", 9)
	a.Feed("\xEE", 9)
	if n, l := b.Feed("\xB4\x54", 9); n != 2 || !slices.Equal(l, []uint32{0x10FFFF}) {
		t.Error(n, l)
	}
	if n, l := a.Feed("\x28", 9); n != 1 || !slices.Equal(l, []uint32{0xFEFF}) {
		t.Error(n, l)
	}
	if _, l := b.Feed("\x90", 9); !slices.Equal(l, []uint32{0x10FFC0}) {
		t.Error(l)
	}
	if _, l := a.Feed("\x90", 9); !slices.Equal(l, []uint32{0xFEC0}) {
		t.Error(l)
	}
	b.Feed("\xFE", 9)
	if decoderOf(a) != (decoder{at: 4}) || decoderOf(b) != (decoder{5, form(5), true}) {
		t.Error(decoderOf(a), decoderOf(b))
	}
}

func TestP122New(t *testing.T) {
	e := bocu.NewEncoder()
	if encoderOf(e) != (encoder{}) {
		t.Error(encoderOf(e))
	}
	if n, s := e.Feed(nil, 9); n != 0 || s != "" || encoderOf(e) != (encoder{}) {
		t.Error(n, s, encoderOf(e))
	}
	e.End()
	if encoderOf(e) != (encoder{done: true}) {
		t.Error(encoderOf(e))
	}
}

func TestP122Known(t *testing.T) {
	for _, x := range known {
		if s, f := write(x.l); s != x.s || f != (api.Fail{}) {
			t.Errorf("%X: % X, %v", x.l, s, f)
		}
	}
}

// What a scalar is held against behind each scalar up to 20.
func TestP122UpTo20(t *testing.T) {
	for c := range uint32(0x21) {
		for _, x := range leaders {
			p := 0x40
			if c == 0x20 {
				p = x.p
			}
			for _, d := range edges {
				want := text(x.l) + string([]byte{byte(c)}) + spelt(d, p)
				if s, f := write(append(slices.Clone(x.l), c, d)); s != want || f != (api.Fail{}) {
					t.Errorf("%X behind %X, %X: % X, %v, not % X", d, x.l, c, s, f, want)
				}
			}
		}
	}
}

// Every scalar behind one far off and behind itself: its bytes are kept where
// there is no room, four of them at most.
func TestP122EveryScalar(t *testing.T) {
	e := bocu.NewEncoder()
	at, p, most := 0, 0x40, 0
	feed := func(c uint32) {
		want := spelt(c, p)
		p = next(c, p)
		at++
		if n, s := e.Feed([]uint32{c, c}, 0); n != 1 || s != "" || encoderOf(e) != (encoder{at: at, kept: len(want)}) {
			t.Fatalf("%X: %d, % X, %v", c, n, s, encoderOf(e))
		}
		most = max(most, e.Kept())
		if n, s := e.Feed(nil, 9); n != 0 || s != want || encoderOf(e) != (encoder{at: at}) {
			t.Fatalf("%X: % X, not % X", c, s, want)
		}
	}
	for c := range uint32(0x21) {
		feed(c)
		feed(c)
	}
	for i := range above {
		feed(nth(i))
		feed(nth(i))
		feed(nth(above - 1 - i))
	}
	if most != 4 {
		t.Error(most, "bytes are kept at most")
	}
}

func TestP122NoScalars(t *testing.T) {
	l := []uint32{0x110000, 0x110001, 0x1FFFFF, 0x200000, 0x7FFFFFFF, 0x80000000, 0x80000041, math.MaxUint32}
	for c := uint32(0xD800); c <= 0xDFFF; c++ {
		l = append(l, c)
	}
	for _, c := range l {
		for _, ahead := range [][]uint32{{}, {0x41}, {0x10FFFF, 0x20, 0xD7FF, 0xE000}} {
			e := bocu.NewEncoder()
			at := len(ahead)
			n, s := e.Feed(append(slices.Clone(ahead), c, 0x42, 0xD800), 99)
			if n != at || s != text(ahead) || encoderOf(e) != (encoder{at, wrong(at), true, 0}) {
				t.Fatalf("%X behind %X: %d, % X, %v", c, ahead, n, s, encoderOf(e))
			}
		}
	}
}

// feedScalars hands a list to an encoder in parts that end at the given places,
// each one so often till nothing of it is left, or it has failed, with the
// rooms in turn; and holds each answer against what the bytes must be.
func feedScalars(t *testing.T, l []uint32, ends []int, turn []int) string {
	t.Helper()
	bad := scalar.First(l...)
	if bad < 0 {
		bad = len(l)
	}
	e := bocu.NewEncoder()
	made, all, at, calls := "", "", 0, 0 // made: of what was eaten; all: what was told of it
	for _, end := range append(ends, len(l)) {
		for more := true; more; calls++ {
			room := turn[calls%len(turn)]
			free := max(room, 0)
			to, failed := at, false
			for to < end && len(made)-len(all) <= free && !failed {
				if failed = to == bad; !failed {
					to++
					made = text(l[:to])
				}
			}
			failed = failed || e.Fail() != api.Fail{}
			want := made[len(all):min(len(all)+min(free, 100), len(made))]
			n, s := e.Feed(l[at:end], room)
			all += s
			kept := len(made) - len(all)
			if n != to-at || s != want || e.At() != to || e.Kept() != kept || kept > 4 {
				t.Fatalf("%X from %d to %d, room %d: %d, % X, %v, not %d, % X", l, at, end, room, n, s, encoderOf(e), to-at, want)
			}
			if got := encoderOf(e); failed && got != (encoder{bad, wrong(bad), true, 0}) || !failed && got != (encoder{at: to, kept: kept}) {
				t.Fatalf("%X up to %d: %v", l, to, got)
			}
			at = to
			more = at < end && !failed
		}
	}
	was := e.Fail()
	e.End()
	if encoderOf(e) != (encoder{at, was, len(all) == len(made), len(made) - len(all)}) {
		t.Fatalf("%X, and End: %v", l, encoderOf(e))
	}
	n, s := e.Feed(l, 4)
	if n != 0 || all+s != made || encoderOf(e) != (encoder{at, was, true, 0}) {
		t.Fatalf("%X, behind End: %d, % X, %v", l, n, s, encoderOf(e))
	}
	return made
}

func TestP122PartsAndRooms(t *testing.T) {
	turns := [][]int{{math.MaxInt}, {1}, {2}, {3}, {4}, {5}, {0, 1}, {-1, 2, 1}, {1, 7, math.MinInt}}
	lists := [][]uint32{
		{}, {0x41}, {0x41, 0x42, 0x43}, {0x41, 0xE9, 0x20AC, 0x1F600}, {0x10FFFF, 0x21, 0x10FFFF, 0}, {0x416, 0x20, 0x436, 0xA, 0x436},
		{0xD800}, {0x41, 0xDFFF, 0x42}, {0x20AC, 0x20AC, 0x110000}, {0x10FFFF, math.MaxUint32, 0x41},
		edges[:18], edges[18:],
	}
	for _, l := range lists {
		whole, _ := write(l)
		for i := range len(l) + 1 {
			for j := i; j <= len(l); j++ {
				for _, turn := range turns {
					if got := feedScalars(t, l, []int{i, j}, turn); got != whole {
						t.Fatalf("%X, cut at %d and %d: % X, not % X", l, i, j, got, whole)
					}
				}
			}
		}
	}
}

// While it keeps bytes it looks at no number; while it keeps none it looks at
// one, room or not.
func TestP122WhatIsKeptComesFirst(t *testing.T) {
	e := bocu.NewEncoder()
	if n, s := e.Feed([]uint32{0x10FFFF, 0xD800}, 3); n != 1 || s != "\xFE\x19\xB4" || encoderOf(e) != (encoder{at: 1, kept: 1}) {
		t.Errorf("%d, % X, %v", n, s, encoderOf(e))
	}
	for _, room := range []int{0, -1, math.MinInt} {
		if n, s := e.Feed([]uint32{0xD800}, room); n != 0 || s != "" || encoderOf(e) != (encoder{at: 1, kept: 1}) {
			t.Errorf("room %d: %d, % X, %v", room, n, s, encoderOf(e))
		}
	}
	if n, s := e.Feed([]uint32{0x10FF7F, 0xD800}, 2); n != 1 || s != "\x54\x4F" || encoderOf(e) != (encoder{at: 2, kept: 1}) {
		t.Errorf("%d, % X, %v", n, s, encoderOf(e))
	}
	if n, s := e.Feed([]uint32{0xD800}, 1); n != 0 || s != "\xFF" || encoderOf(e) != (encoder{2, wrong(2), true, 0}) {
		t.Errorf("%d, % X, %v", n, s, encoderOf(e))
	}
	for _, room := range []int{0, -1, math.MinInt} {
		e := bocu.NewEncoder()
		if n, s := e.Feed([]uint32{0x41, 0x42}, room); n != 1 || s != "" || encoderOf(e) != (encoder{at: 1, kept: 1}) {
			t.Errorf("room %d: %d, % X, %v", room, n, s, encoderOf(e))
		}
		e = bocu.NewEncoder()
		if n, s := e.Feed([]uint32{0xDFFF}, room); n != 0 || s != "" || encoderOf(e) != (encoder{0, wrong(0), true, 0}) {
			t.Errorf("room %d: %d, % X, %v", room, n, s, encoderOf(e))
		}
	}
}

// Where the room is just full nothing is kept, so that one more is eaten.
func TestP122FullRoom(t *testing.T) {
	e := bocu.NewEncoder()
	if n, s := e.Feed([]uint32{0xFEFF, 0x80, 0x43}, 3); n != 2 || s != "\xFB\xEE\x28" || encoderOf(e) != (encoder{at: 2, kept: 3}) {
		t.Errorf("%d, % X, %v", n, s, encoderOf(e))
	}
	if n, s := e.Feed([]uint32{0xD800}, 3); n != 0 || s != packed(0x80-0xFEC0) || encoderOf(e) != (encoder{2, wrong(2), true, 0}) {
		t.Errorf("%d, % X, %v", n, s, encoderOf(e))
	}
}

// What is kept is told behind an end, too, by whatever rooms; nothing else is.
func TestP122BehindAnEnd(t *testing.T) {
	const want = "\xFE\x19\xB4\x54"
	for _, room := range rooms {
		e := bocu.NewEncoder()
		e.Feed([]uint32{0x10FFFF}, 0)
		e.End()
		told := 0
		for _, l := range [][]uint32{{0x41}, {0xD800}, nil} {
			if encoderOf(e) != (encoder{at: 1, kept: 4 - told, done: told == 4}) {
				t.Errorf("room %d: %v", room, encoderOf(e))
			}
			k := min(max(room, 0), 4-told)
			if n, s := e.Feed(l, room); n != 0 || s != want[told:told+k] {
				t.Errorf("room %d: %d, % X, %v", room, n, s, encoderOf(e))
			}
			told += k
			e.End()
		}
	}
}

func TestP122BehindAFailure(t *testing.T) {
	e := bocu.NewEncoder()
	e.Feed([]uint32{0x20AC, 0x110000}, 9)
	for range 2 {
		for _, l := range [][]uint32{nil, {0x41}, {0xD800}, {0x110000, 0x41}} {
			for _, room := range rooms {
				if n, s := e.Feed(l, room); n != 0 || s != "" || encoderOf(e) != (encoder{1, wrong(1), true, 0}) {
					t.Errorf("%X: %d, % X, %v", l, n, s, encoderOf(e))
				}
			}
		}
		e.End()
	}
}

func TestP122WhatIsHandedInStays(t *testing.T) {
	for _, room := range rooms {
		full := []uint32{0x41, 0x20AC, 0x10FFFF, 0xD800, 7, 8, 9}
		was := slices.Clone(full)
		e := bocu.NewEncoder()
		e.Feed(full[:2], room)
		e.Feed(full[2:4], room)
		if !slices.Equal(full, was) {
			t.Errorf("room %d: %X", room, full)
		}
	}
	l := []uint32{0xFEFF}
	e := bocu.NewEncoder()
	e.Feed(l, 0)
	l[0] = 0x41
	if _, s := e.Feed([]uint32{0xFEC0}, 9); s != "\xFB\xEE\x28\x90" {
		t.Errorf("% X: what was eaten hangs on the list still", s)
	}
}

func TestP122EncodersAreForThemselves(t *testing.T) {
	a, b := bocu.NewEncoder(), bocu.NewEncoder()
	a.Feed([]uint32{0xFEFF}, 1)
	b.Feed([]uint32{0x10FFFF}, 1)
	if _, s := a.Feed([]uint32{0xFEC0}, 9); s != "\xEE\x28\x90" {
		t.Errorf("% X", s)
	}
	if _, s := b.Feed([]uint32{0x10FFC0, 0xD800}, 9); s != "\x19\xB4\x54\x90" {
		t.Errorf("% X", s)
	}
	if encoderOf(a) != (encoder{at: 2}) || encoderOf(b) != (encoder{2, wrong(2), true, 0}) {
		t.Error(encoderOf(a), encoderOf(b))
	}
}

// carry writes a list and reads it again, by so many scalars or bytes and so
// much room a call. Each call gets on by a scalar or a byte: more calls than
// there are of both are none of a machine that ends.
func carry(l []uint32, part, room int) (string, []uint32) {
	e, d := bocu.NewEncoder(), bocu.NewDecoder()
	var text strings.Builder
	most := 5*len(l) + 2
	for i := 0; i < most && !e.Done(); i++ {
		n, s := e.Feed(l[:min(part, len(l))], room)
		text.WriteString(s)
		if l = l[n:]; len(l) == 0 {
			e.End()
		}
	}
	var back []uint32
	s := text.String()
	for i := 0; i < most && !d.Done(); i++ {
		n, c := d.Feed(s[:min(part, len(s))], room)
		back = append(back, c...)
		if s = s[n:]; len(s) == 0 {
			d.End()
		}
	}
	return text.String(), back
}

func TestP123ThereAndBack(t *testing.T) {
	var rising []uint32
	eachScalar(func(c uint32) { rising = append(rising, c) })
	falling := slices.Clone(rising)
	slices.Reverse(falling)
	mixed := slices.Clone(rising)
	r := source(1230)
	for i := range mixed {
		j := r.below(i + 1)
		mixed[i], mixed[j] = mixed[j], mixed[i]
	}
	for _, all := range [][]uint32{rising, falling, mixed} {
		want := text(all)
		if len(want) > 4*len(all) {
			t.Error(len(want), "bytes")
		}
		for _, x := range []struct{ part, room int }{{len(all) * 4, math.MaxInt}, {1, 1}, {3, 2}, {1000, 7}} {
			s, back := carry(all, x.part, x.room)
			if s != want {
				t.Errorf("parts of %d, room %d: written otherwise", x.part, x.room)
			}
			if !slices.Equal(back, all) {
				t.Errorf("parts of %d, room %d: read otherwise", x.part, x.room)
			}
		}
	}
}

func TestP123MixedLists(t *testing.T) {
	r := source(1231)
	for range 20000 {
		l := r.list(12)
		s, f := write(l)
		if s != text(l) || f != (api.Fail{}) || len(s) > 4*len(l) {
			t.Fatalf("%X: % X, %v, not % X", l, s, f, text(l))
		}
		if back, f := read(s); !slices.Equal(back, l) || f != (api.Fail{}) {
			t.Fatalf("%X: % X, and %X, %v", l, s, back, f)
		}
	}
}

// again: a text without FF that denotes something is written as it was; of
// others what is told is written as it was ahead of the failure.
func again(t *testing.T, s string) bool {
	t.Helper()
	if strings.Contains(s, "\xFF") {
		return false
	}
	l, f := read(s)
	w, _ := write(l)
	if !strings.HasPrefix(s, w) || f == (api.Fail{}) && w != s {
		t.Fatalf("% X: %X, %v, and % X", s, l, f, w)
	}
	return f == api.Fail{}
}

func TestP123WrittenAgain(t *testing.T) {
	r := source(1232)
	times := 0
	count := func(s string) {
		if again(t, s) {
			times++
		}
	}
	for _, s := range texts() {
		count(s)
	}
	for _, x := range known {
		count(x.s)
	}
	for range 100000 {
		count(r.text(16))
	}
	for a := range 256 {
		for b := range 256 {
			count(string([]byte{byte(a), byte(b)}))
			count("\xFE" + string([]byte{byte(a % 8), byte(a), byte(b)}))
			count("\xD3\xCA" + string([]byte{byte(a), byte(b), 0x90}))
		}
	}
	if times < 50000 {
		t.Error(times, "texts denote something")
	}
}

// Every scalar, behind lists of all kinds: its text is greater than that of the
// one below it, and has a kept byte only where it is that one itself.
func TestP123OrderOfScalars(t *testing.T) {
	for _, x := range leaders[:6] {
		t.Run(fmt.Sprintf("%X", x.p), func(t *testing.T) {
			t.Parallel()
			last := text(x.l)
			ahead := len(last)
			eachScalar(func(c uint32) {
				s, _ := write(append(slices.Clone(x.l), c))
				if last >= s {
					t.Fatalf("%X: % X isn't greater than % X", c, s, last)
				}
				last = s
				s = s[ahead:]
				if c <= 0x20 && s != string([]byte{byte(c)}) || c > 0x20 && (s[0] <= 0x20 || strings.ContainsAny(s, string(kept))) {
					t.Fatalf("%X: % X", c, s)
				}
			})
		})
	}
}

func TestP123Order(t *testing.T) {
	lists := [][]uint32{nil}
	for _, a := range edges {
		lists = append(lists, []uint32{a})
		for _, b := range edges {
			lists = append(lists, []uint32{a, b})
		}
	}
	r := source(1233)
	for range 300 {
		lists = append(lists, r.list(6))
	}
	made := make([]string, len(lists))
	for i, l := range lists {
		made[i], _ = write(l)
	}
	for i, a := range lists {
		for j, b := range lists {
			if strings.Compare(made[i], made[j]) != scalar.Order(a, b) {
				t.Fatalf("%X and %X: % X and % X", a, b, made[i], made[j])
			}
		}
	}
}

// Lists that begin alike for long, and then differ.
func TestP123OrderBehindABeginning(t *testing.T) {
	r := source(1234)
	for range 20000 {
		begin := r.list(8)
		a := append(slices.Clone(begin), r.list(3)...)
		b := append(slices.Clone(begin), r.list(3)...)
		x, _ := write(a)
		y, _ := write(b)
		if strings.Compare(x, y) != scalar.Order(a, b) {
			t.Fatalf("%X and %X: % X and % X", a, b, x, y)
		}
	}
}

// The kept bytes are in a text just at the places of these scalars.
func TestP123KeptBytes(t *testing.T) {
	r := source(1235)
	for range 20000 {
		l := r.list(12)
		s, _ := write(l)
		var want, got []int
		for i, c := range l {
			if c < 0x100 && slices.Contains(kept, byte(c)) {
				want = append(want, len(text(l[:i])))
			}
		}
		for i := range len(s) {
			if slices.Contains(kept, s[i]) {
				got = append(got, i)
			}
		}
		if !slices.Equal(got, want) {
			t.Fatalf("%X: % X: at %d, not %d", l, s, got, want)
		}
	}
}

// Lines that end with a control are for themselves.
func TestP123Lines(t *testing.T) {
	r := source(1236)
	for range 5000 {
		for c := range uint32(0x20) {
			a, b := append(r.list(4), c), r.list(4)
			x, _ := write(a)
			y, _ := write(b)
			if s, _ := write(append(a, b...)); s != x+y {
				t.Fatalf("%X and %X: % X, not % X % X", a, b, s, x, y)
			}
		}
	}
}

// Two texts with FF between denote what both denote, one behind the other.
func TestP123FFBetween(t *testing.T) {
	var whole []string
	for _, s := range append(texts(), "\x20", "\x0A", "\xFF\xFF", "\xD3\xCA\x20", text([]uint32{0x10FFFF}), text([]uint32{0xD7FF, 0x20}), text([]uint32{0x3042, 0x3044})) {
		if _, f := read(s); f == (api.Fail{}) {
			whole = append(whole, s)
		}
	}
	r := source(1237)
	for len(whole) < 300 {
		s := r.text(10)
		if _, f := read(s); f == (api.Fail{}) {
			whole = append(whole, s)
		}
	}
	for _, a := range whole {
		x, _ := read(a)
		for _, b := range whole {
			y, _ := read(b)
			if l, f := read(a + "\xFF" + b); !slices.Equal(l, scalar.Join(x, y)) || f != (api.Fail{}) {
				t.Fatalf("% X, FF, % X: %X, %v, not %X and %X", a, b, l, f, x, y)
			}
		}
	}
	for range 5000 {
		a, b := r.list(6), r.list(6)
		x, _ := write(a)
		y, _ := write(b)
		if l, f := read(x + "\xFF" + y); !slices.Equal(l, scalar.Join(a, b)) || f != (api.Fail{}) {
			t.Fatalf("%X, FF, %X: %X, %v", a, b, l, f)
		}
	}
}
