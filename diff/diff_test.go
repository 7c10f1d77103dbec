package diff_test

import (
	"math"
	"strings"
	"testing"

	"pilcrow/diff"
)

// top is the greatest difference that has bytes, -top the least one.
const top = 1114111

// row is one of the chapter's table, with the last difference of its bytes.
type row struct {
	from, to    byte
	trails      int
	least, last int
}

var table = []row{
	{0x21, 0x21, 3, -14536567, -187661},
	{0x22, 0x24, 2, -187660, -10514},
	{0x25, 0x4F, 1, -10513, -65},
	{0x50, 0xCF, 0, -64, 63},
	{0xD0, 0xFA, 1, 64, 10512},
	{0xFB, 0xFD, 2, 10513, 187659},
	{0xFE, 0xFE, 3, 187660, 14536566},
}

// trailBytes: all of them by the chapter's words, each at the place that it is
// worth.
func trailBytes() string {
	var out []byte
	for _, span := range [][2]int{{0x01, 0x06}, {0x10, 0x19}, {0x1C, 0x1F}, {0x21, 0xFF}} {
		for b := span[0]; b <= span[1]; b++ {
			out = append(out, byte(b))
		}
	}
	return string(out)
}

var all = trailBytes()

// rowWith: the row of the table that has a first byte, nil if none has.
func rowWith(b byte) *row {
	for i := range table {
		if table[i].from <= b && b <= table[i].to {
			return &table[i]
		}
	}
	return nil
}

// worth: the difference that whole bytes are by the chapter's words; false, if
// they are none.
func worth(s string) (int, bool) {
	if s == "" {
		return 0, false
	}
	r := rowWith(s[0])
	if r == nil || len(s) != 1+r.trails {
		return 0, false
	}
	step := []int{1, 243, 59049, 0}[r.trails]
	digits := 0
	for i := 1; i < len(s); i++ {
		v := strings.IndexByte(all, s[i])
		if v < 0 {
			return 0, false
		}
		digits = digits*243 + v
	}
	return r.least + int(s[0]-r.from)*step + digits, true
}

// answer is all that Range answers.
type answer struct {
	lo, hi, n int
	ok        bool
}

func ranged(s string) answer {
	lo, hi, n, ok := diff.Range(s)
	return answer{lo, hi, n, ok}
}

// span: what Range answers by the chapter's words: the differences of the
// bytes with the least, and with the greatest trail bytes behind.
func span(s string) answer {
	if s == "" {
		return answer{}
	}
	r := rowWith(s[0])
	if r == nil || len(s) > 1+r.trails {
		return answer{}
	}
	left := 1 + r.trails - len(s)
	lo, ok := worth(s + strings.Repeat("\x01", left))
	hi, _ := worth(s + strings.Repeat("\xFF", left))
	if !ok {
		return answer{}
	}
	return answer{lo, hi, 1 + r.trails, true}
}

func packed(t *testing.T, d int) string {
	t.Helper()
	s, ok := diff.Pack(d)
	if !ok {
		t.Fatalf("Pack(%d): false", d)
	}
	return s
}

func refused(t *testing.T, s string) {
	t.Helper()
	if got := ranged(s); got != (answer{}) {
		t.Fatalf("Range(% X): %v", s, got)
	}
}

func TestExamples(t *testing.T) {
	for _, x := range []struct {
		d    int
		want string
	}{
		{0, "\x90"}, {-64, "\x50"}, {-65, "\x4F\xFF"}, {64, "\xD0\x01"},
		{0xFEFF - 0x40, "\xFB\xEE\x28"},
		// Two of the whole: 416 behind the beginning, and 436 behind it.
		{0x416 - 0x40, "\xD3\xCA"}, {0x436 - 0x440, "\x86"},
	} {
		if got, ok := diff.Pack(x.d); got != x.want || !ok {
			t.Errorf("Pack(%d): % X, %v", x.d, got, ok)
		}
	}
	if got := diff.Prev(0x41); got != 0x40 {
		t.Errorf("Prev(41): %X", got)
	}
	if got := diff.Prev(0x3041); got != 0x3070 {
		t.Errorf("Prev(3041): %X", got)
	}
}

func TestP111Known(t *testing.T) {
	for _, x := range []struct {
		d    int
		want string
	}{
		{-187661, "\x21\xFF\xFF\xFF"},
		{-187660, "\x22\x01\x01"}, {-187660 + 59048, "\x22\xFF\xFF"},
		{-187660 + 59049, "\x23\x01\x01"}, {-10514, "\x24\xFF\xFF"},
		{-10513, "\x25\x01"}, {-10513 + 242, "\x25\xFF"}, {-10513 + 243, "\x26\x01"},
		{-66, "\x4F\xFE"}, {-65, "\x4F\xFF"},
		{-64, "\x50"}, {-1, "\x8F"}, {0, "\x90"}, {1, "\x91"}, {63, "\xCF"},
		{64, "\xD0\x01"}, {65, "\xD0\x02"}, {64 + 5, "\xD0\x06"}, {64 + 6, "\xD0\x10"},
		{64 + 15, "\xD0\x19"}, {64 + 16, "\xD0\x1C"}, {64 + 19, "\xD0\x1F"}, {64 + 20, "\xD0\x21"},
		{64 + 242, "\xD0\xFF"}, {64 + 243, "\xD1\x01"},
		{10512, "\xFA\xFF"},
		{10513, "\xFB\x01\x01"}, {10513 + 243, "\xFB\x02\x01"}, {10513 + 59049, "\xFC\x01\x01"},
		{187659, "\xFD\xFF\xFF"},
		{187660, "\xFE\x01\x01\x01"}, {187661, "\xFE\x01\x01\x02"},
		{187660 + 243, "\xFE\x01\x02\x01"}, {187660 + 59049, "\xFE\x02\x01\x01"},
		// 926451 is 15 times 59049, 167 times 243, and 135.
		{top, "\xFE\x19\xB4\x94"},
		// 13422456 is 227 times 59049, 75 times 243, and 108.
		{-top, "\x21\xF0\x58\x79"},
	} {
		if got := packed(t, x.d); got != x.want {
			t.Errorf("Pack(%d): % X, not % X", x.d, got, x.want)
		}
	}
}

func TestP111Rows(t *testing.T) {
	for i, r := range table {
		if i > 0 && table[i-1].last+1 != r.least {
			t.Errorf("row %d begins at %d", i, r.least)
		}
		for _, d := range []int{r.least - 1, r.least, r.least + 1, r.last - 1, r.last, r.last + 1} {
			if d < -top || d > top {
				continue
			}
			s := packed(t, d)
			if got, ok := worth(s); got != d || !ok {
				t.Errorf("Pack(%d): % X is %d, %v", d, s, got, ok)
			}
			of := r.least <= d && d <= r.last
			if (r.from <= s[0] && s[0] <= r.to) != of {
				t.Errorf("Pack(%d): % X isn't of its row", d, s)
			}
		}
	}
}

func TestP111Bounds(t *testing.T) {
	for _, d := range []int{-top - 1, top + 1, -14536567, 14536566, -14536568, 14536567, math.MinInt32, math.MaxInt32, math.MinInt, math.MinInt + 1, math.MaxInt} {
		if s, ok := diff.Pack(d); s != "" || ok {
			t.Errorf("Pack(%d): % X, %v", d, s, ok)
		}
	}
	for _, d := range []int{-top, -top + 1, top - 1, top} {
		if got, ok := worth(packed(t, d)); got != d || !ok {
			t.Errorf("Pack(%d) is %d, %v", d, got, ok)
		}
	}
}

// All differences, each held against the one below: their bytes denote them,
// rise with them, begin no other ones, and keep some bytes for themselves.
func TestP114All(t *testing.T) {
	kept := "\x00\x07\x08\x09\x0A\x0B\x0C\x0D\x0E\x0F\x1A\x1B\x20"
	below := ""
	for d := -top; d <= top; d++ {
		s := packed(t, d)
		if got, ok := worth(s); got != d || !ok {
			t.Fatalf("Pack(%d): % X is %d, %v", d, s, got, ok)
		}
		if got := ranged(s); got != (answer{d, d, len(s), true}) {
			t.Fatalf("Range(% X): %v", s, got)
		}
		if below >= s {
			t.Fatalf("%d: % X isn't above % X", d, s, below)
		}
		// Of texts in order, one that begins any later one begins the next.
		if below != "" && strings.HasPrefix(s, below) {
			t.Fatalf("%d: % X begins % X", d, below, s)
		}
		if s[0] < 0x21 || strings.ContainsAny(s[1:], kept) {
			t.Fatalf("%d: % X has a byte that is kept", d, s)
		}
		below = s
	}
}

func TestP112Trails(t *testing.T) {
	if len(all) != 243 {
		t.Fatal(len(all))
	}
	for i := range 256 {
		b := byte(i)
		want := strings.IndexByte(all, b)
		v, ok := diff.Trail(b)
		if want < 0 && (v != 0 || ok) || want >= 0 && (v != want || !ok) {
			t.Errorf("Trail(%02X): %d, %v", b, v, ok)
		}
	}
	for _, x := range []struct {
		b byte
		v int
	}{{0x01, 0}, {0x06, 5}, {0x10, 6}, {0x19, 15}, {0x1C, 16}, {0x1F, 19}, {0x21, 20}, {0xFF, 242}} {
		if v, ok := diff.Trail(x.b); v != x.v || !ok {
			t.Errorf("Trail(%02X): %d, %v", x.b, v, ok)
		}
	}
}

func TestP112Bytes(t *testing.T) {
	for v := range 243 {
		if b, ok := diff.Byte(v); b != all[v] || !ok {
			t.Errorf("Byte(%d): %02X, %v", v, b, ok)
		}
	}
	for _, v := range []int{-1, -2, -243, 243, 244, 255, 256, 257, 1 << 16, math.MinInt, math.MaxInt} {
		if b, ok := diff.Byte(v); b != 0 || ok {
			t.Errorf("Byte(%d): %02X, %v", v, b, ok)
		}
	}
}

func TestP112RangeKnown(t *testing.T) {
	for _, x := range []struct {
		s    string
		want answer
	}{
		{"\x21", answer{-14536567, -187661, 4, true}},
		{"\x21\x01\x01\x01", answer{-14536567, -14536567, 4, true}},
		{"\x21\xFF", answer{-187661 - 59048, -187661, 4, true}},
		{"\x21\xFF\xFF", answer{-187661 - 242, -187661, 4, true}},
		{"\x22", answer{-187660, -128612, 3, true}},
		{"\x24", answer{-69562, -10514, 3, true}},
		{"\x24\xFF", answer{-10514 - 242, -10514, 3, true}},
		{"\x25", answer{-10513, -10271, 2, true}},
		{"\x4F", answer{-307, -65, 2, true}},
		{"\x50", answer{-64, -64, 1, true}},
		{"\xCF", answer{63, 63, 1, true}},
		{"\xD0", answer{64, 306, 2, true}},
		{"\xFA", answer{10270, 10512, 2, true}},
		{"\xFB", answer{10513, 69561, 3, true}},
		{"\xFB\x02", answer{10756, 10998, 3, true}},
		{"\xFB\xEE\x28", answer{0xFEBF, 0xFEBF, 3, true}},
		{"\xFD", answer{128611, 187659, 3, true}},
		{"\xFE", answer{187660, 14536566, 4, true}},
		{"\xFE\x01", answer{187660, 246708, 4, true}},
		{"\xFE\x01\x01", answer{187660, 187902, 4, true}},
		{"\xFE\xFF\xFF\xFF", answer{14536566, 14536566, 4, true}},
	} {
		if got := ranged(x.s); got != x.want {
			t.Errorf("Range(% X): %v", x.s, got)
		}
	}
}

// Each beginning of some differences' bytes spans just those that begin so.
func TestP112RangeBeginnings(t *testing.T) {
	for d := -top; d <= top; d += 37 {
		s := packed(t, d)
		for i := 1; i <= len(s); i++ {
			got := ranged(s[:i])
			if got != span(s[:i]) || got.n != len(s) || got.lo > d || got.hi < d {
				t.Fatalf("Range(% X): %v", s[:i], got)
			}
			for _, edge := range []int{got.lo - 1, got.lo, got.hi, got.hi + 1} {
				if edge < -top || edge > top {
					continue
				}
				of := edge >= got.lo && edge <= got.hi
				if strings.HasPrefix(packed(t, edge), s[:i]) != of {
					t.Fatalf("Range(% X): %v, but %d", s[:i], got, edge)
				}
			}
		}
	}
}

// All texts of up to two bytes, and of three and four with bytes at the edges.
func TestP112RangeTexts(t *testing.T) {
	var edges []byte
	for _, b := range []byte("\x01\x06\x10\x19\x1C\x1F\x21\x25\x50\xD0\xFB\xFE") {
		edges = append(edges, b-1, b, b+1)
	}
	edges = append(edges, 0xFF)
	same := func(s string) {
		if got, want := ranged(s), span(s); got != want {
			t.Fatalf("Range(% X): %v, not %v", s, got, want)
		}
	}
	same("")
	for a := range 256 {
		same(string([]byte{byte(a)}))
		for b := range 256 {
			same(string([]byte{byte(a), byte(b)}))
		}
		for _, b := range edges {
			for _, c := range edges {
				same(string([]byte{byte(a), b, c}))
			}
		}
	}
	for _, a := range []byte("\x00\x20\x21\x22\x24\x50\xD0\xFD\xFE\xFF") {
		for _, b := range edges {
			for _, c := range edges {
				for _, d := range edges {
					same(string([]byte{a, b, c, d}))
				}
			}
		}
	}
}

func TestP112RangeRefused(t *testing.T) {
	refused(t, "")
	for i := range 256 {
		b := byte(i)
		if b < 0x21 || b > 0xFE {
			refused(t, string([]byte{b}))
			refused(t, string([]byte{b, 0x01, 0x01}))
		}
	}
	for _, r := range table {
		for _, first := range []byte{r.from, r.to} {
			s := string([]byte{first}) + strings.Repeat("\x90", r.trails)
			if !ranged(s).ok {
				t.Errorf("Range(% X): false", s)
			}
			refused(t, s+"\x01")
			refused(t, s+"\x00")
			refused(t, s+strings.Repeat("\x90", 1<<20))
			for i := 1; i < len(s); i++ {
				for _, bad := range "\x00\x07\x0F\x1A\x1B\x20" {
					wrong := []byte(s)
					wrong[i] = byte(bad)
					refused(t, string(wrong))
					refused(t, string(wrong[:i+1]))
				}
			}
		}
	}
}

// The spans of the first bytes follow each other, from the least difference of
// the table to the greatest one.
func TestP114Spans(t *testing.T) {
	next := table[0].least
	for b := 0x21; b <= 0xFE; b++ {
		got := ranged(string([]byte{byte(b)}))
		if got.lo != next || got.hi < got.lo || !got.ok {
			t.Fatalf("Range(%02X): %v, not from %d", b, got, next)
		}
		next = got.hi + 1
		inner := got.lo
		for _, c := range []byte(all) {
			if got.n == 1 {
				break
			}
			part := ranged(string([]byte{byte(b), c}))
			if part.lo != inner || part.n != got.n || !part.ok {
				t.Fatalf("Range(%02X %02X): %v, not from %d", b, c, part, inner)
			}
			inner = part.hi + 1
		}
		if got.n > 1 && inner != next {
			t.Fatalf("Range(%02X): its parts end at %d", b, inner)
		}
	}
	if next != 14536567 {
		t.Error(next)
	}
}

func TestP113Known(t *testing.T) {
	for _, x := range []struct{ c, want uint32 }{
		{0, 0x40}, {0x3F, 0x40}, {0x40, 0x40}, {0x41, 0x40}, {0x7F, 0x40}, {0x80, 0xC0}, {0xE9, 0xC0},
		{0x416, 0x440}, {0x20AC, 0x20C0},
		{0x303F, 0x3040}, {0x3040, 0x3070}, {0x3041, 0x3070}, {0x307F, 0x3070}, {0x3080, 0x3070},
		{0x309E, 0x3070}, {0x309F, 0x3070}, {0x30A0, 0x30C0},
		{0x4DFF, 0x4DC0}, {0x4E00, 0x7711}, {0x4E01, 0x7711}, {0x7711, 0x7711},
		{0x9FA4, 0x7711}, {0x9FA5, 0x7711}, {0x9FA6, 0x9FC0},
		{0xABFF, 0xABC0}, {0xAC00, 0xC1D1}, {0xAC01, 0xC1D1}, {0xC1D1, 0xC1D1},
		{0xD7A2, 0xC1D1}, {0xD7A3, 0xC1D1}, {0xD7A4, 0xD7C0},
		{0xD800, 0xD840}, {0xDFFF, 0xDFC0}, {0xFEFF, 0xFEC0}, {0xFFFF, 0xFFC0}, {0x10000, 0x10040},
		{0x13041, 0x13040}, {0x14E00, 0x14E40}, {0x1AC00, 0x1AC40},
		{0x10FFFF, 0x10FFC0}, {0x110000, 0x110040}, {0x7FFFFFFF, 0x7FFFFFC0}, {0x80000000, 0x80000040},
		{0x80003041, 0x80003040}, {0xFFFFFF7F, 0xFFFFFF40}, {0xFFFFFF80, 0xFFFFFFC0}, {0xFFFFFFFF, 0xFFFFFFC0},
	} {
		if got := diff.Prev(x.c); got != x.want {
			t.Errorf("Prev(%X): %X", x.c, got)
		}
	}
}

// All numbers up to some beyond the scalars, by the chapter's words.
func TestP113All(t *testing.T) {
	for c := uint32(0); c < 0x120000; c++ {
		want := c/128*128 + 64
		if c >= 0x3040 && c <= 0x309F {
			want = 0x3070
		} else if c >= 0x4E00 && c <= 0x9FA5 {
			want = 0x7711
		} else if c >= 0xAC00 && c <= 0xD7A3 {
			want = 0xC1D1
		}
		if got := diff.Prev(c); got != want {
			t.Fatalf("Prev(%X): %X", c, got)
		}
	}
}

// What is answered once is answered again, whatever was asked between.
func TestP111Again(t *testing.T) {
	first := packed(t, -top)
	for _, d := range []int{top, 0, top + 1, 64, -65} {
		diff.Pack(d)
		diff.Range("\x21\x01")
	}
	if again := packed(t, -top); again != first {
		t.Errorf("% X, then % X", first, again)
	}
}
