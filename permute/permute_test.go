package permute_test

import (
	"bytes"
	"slices"
	"strconv"
	"strings"
	"testing"

	"pilcrow/permute"
)

// chapter: the rows of 00 to 9F, as they stand there.
const chapter = `
00 01 02 03 37 2D 2E 2F 16 05 15 0B 0C 0D 0E 0F
10 11 12 13 3C 3D 32 26 18 19 3F 27 1C 1D 1E 1F
40 5A 7F 7B 5B 6C 50 7D 4D 5D 5C 4E 6B 60 4B 61
F0 F1 F2 F3 F4 F5 F6 F7 F8 F9 7A 5E 4C 7E 6E 6F
7C C1 C2 C3 C4 C5 C6 C7 C8 C9 D1 D2 D3 D4 D5 D6
D7 D8 D9 E2 E3 E4 E5 E6 E7 E8 E9 AD E0 BD 5F 6D
79 81 82 83 84 85 86 87 88 89 91 92 93 94 95 96
97 98 99 A2 A3 A4 A5 A6 A7 A8 A9 C0 4F D0 A1 07
20 21 22 23 24 25 06 17 28 29 2A 2B 2C 09 0A 1B
30 31 1A 33 34 35 36 08 38 39 3A 3B 04 14 3E FF
`

// listed: the numbers of some rows.
func listed(t *testing.T, rows string) []byte {
	var l []byte
	for _, w := range strings.Fields(rows) {
		n, err := strconv.ParseUint(w, 16, 8)
		if err != nil {
			t.Fatal(err)
		}
		l = append(l, byte(n))
	}
	return l
}

// table: what all 256 bytes become by the chapter's words: its rows, and
// behind them the bytes that don't stand there, rising.
func table(t *testing.T) []byte {
	l := listed(t, chapter)
	if len(l) != 0xA0 {
		t.Fatal(len(l), "numbers stand in the rows")
	}
	var others []byte
	for _, b := range every() {
		if !bytes.Contains(l, []byte{b}) {
			others = append(others, b)
		}
	}
	return append(l, others...)
}

// every: all 256 bytes, rising.
func every() []byte {
	l := make([]byte, 256)
	for i := range l {
		l[i] = byte(i)
	}
	return l
}

// falling: all 256 bytes, the greatest one first.
func falling() []byte {
	l := every()
	slices.Reverse(l)
	return l
}

// texts: the empty one, one byte, all bytes in several orders, one byte many
// times, and long ones.
func texts() []string {
	all := string(every())
	down := string(falling())
	l := []string{
		"", "A", "\x00", "\xFF", "\x9F\xA0", "any", "A text of letters, 0 to 9.\r\n",
		all, down, all + down, all[0xA0:], all[:0xA0], strings.Repeat(all, 300),
		"\xE2\x82\xAC\xC3\xA9\xF0\x9F\x98\x80", "\xC3", "\xEF\xBB\xBF\xEF\xBF\xBD\xED\xA0\x80\xC0\x80",
	}
	for _, b := range []byte{0, 1, 0x0A, 0x41, 0x7F, 0x80, 0x9F, 0xA0, 0xC5, 0xFE, 0xFF} {
		one := string([]byte{b})
		l = append(l, one, one+one, strings.Repeat(one, 1000))
	}
	return append(l, mixed(100000))
}

// mixed: a long text in which every byte comes in many places.
func mixed(n int) string {
	l := make([]byte, n)
	x := uint32(1)
	for i := range l {
		x = x*1664525 + 1013904223
		l[i] = byte(x >> 24)
	}
	return string(l)
}

// turned: a text by a list of what each byte becomes.
func turned(s string, by []byte) string {
	var b strings.Builder
	for i := range len(s) {
		b.WriteByte(by[s[i]])
	}
	return b.String()
}

// backward: which byte becomes each one.
func backward(by []byte) []byte {
	l := make([]byte, 256)
	for _, b := range every() {
		l[b] = byte(bytes.IndexByte(by, b))
	}
	return l
}

// isTable: all that a table tells of bytes is as the chapter says.
func isTable(t *testing.T, p *permute.Table) {
	t.Helper()
	want := table(t)
	for _, b := range every() {
		if got := p.To(b); got != want[b] {
			t.Errorf("To(%02X): %02X, not %02X", b, got, want[b])
		}
		if got := p.From(want[b]); got != b {
			t.Errorf("From(%02X): %02X, not %02X", want[b], got, b)
		}
	}
}

func TestP71EveryByte(t *testing.T) {
	isTable(t, permute.New())
}

// upper: what A0 to FF become, written out.
const upper = `
41 42 43 44 45 46 47 48 49 4A 51 52 53 54 55 56
57 58 59 62 63 64 65 66 67 68 69 6A 70 71 72 73
74 75 76 77 78 80 8A 8B 8C 8D 8E 8F 90 9A 9B 9C
9D 9E 9F A0 AA AB AC AE AF B0 B1 B2 B3 B4 B5 B6
B7 B8 B9 BA BB BC BE BF CA CB CC CD CE CF DA DB
DC DD DE DF E1 EA EB EC ED EE EF FA FB FC FD FE
`

// The rule for A0 to FF by its own words: 96 bytes, rising, and none of those
// of the rows. The first two are named.
func TestP71TheBytesBehindTheRows(t *testing.T) {
	p := permute.New()
	rows := listed(t, chapter)
	if p.To(0xA0) != 0x41 || p.To(0xA1) != 0x42 {
		t.Errorf("A0, A1: %02X, %02X", p.To(0xA0), p.To(0xA1))
	}
	for b := 0xA0; b <= 0xFF; b++ {
		x := p.To(byte(b))
		if bytes.Contains(rows, []byte{x}) {
			t.Errorf("To(%02X): %02X stands in the rows", b, x)
		}
		if b > 0xA0 && x <= p.To(byte(b-1)) {
			t.Errorf("To(%02X): %02X isn't greater than the one ahead of it", b, x)
		}
	}
	out := listed(t, upper)
	if len(out) != 96 {
		t.Fatal(len(out))
	}
	for i, want := range out {
		b := byte(0xA0 + i)
		if p.To(b) != want || p.From(want) != b {
			t.Errorf("To(%02X): %02X, From(%02X): %02X", b, p.To(b), want, p.From(want))
		}
	}
}

func TestP71Texts(t *testing.T) {
	p := permute.New()
	to := table(t)
	from := backward(to)
	for _, s := range texts() {
		if got := p.Text(s); got != turned(s, to) {
			t.Errorf("Text(%.40q), %d bytes: %.40q", s, len(s), got)
		}
		if got := p.Back(s); got != turned(s, from) {
			t.Errorf("Back(%.40q), %d bytes: %.40q", s, len(s), got)
		}
	}
}

// Text and Back by To and From alone, whatever byte stands beside another one.
func TestP71EveryTwoBytes(t *testing.T) {
	p := permute.New()
	for _, a := range every() {
		for _, b := range every() {
			s := string([]byte{a, b})
			if got := p.Text(s); got != string([]byte{p.To(a), p.To(b)}) {
				t.Fatalf("Text(% X): % X", s, got)
			}
			if got := p.Back(s); got != string([]byte{p.From(a), p.From(b)}) {
				t.Fatalf("Back(% X): % X", s, got)
			}
		}
	}
}

// A text behind another one becomes what they become, one behind the other.
func TestP71OneTextBehindTheOther(t *testing.T) {
	p := permute.New()
	l := texts()
	for _, a := range l {
		for _, b := range l {
			if p.Text(a+b) != p.Text(a)+p.Text(b) {
				t.Fatalf("Text of %.40q and %.40q", a, b)
			}
			if p.Back(a+b) != p.Back(a)+p.Back(b) {
				t.Fatalf("Back of %.40q and %.40q", a, b)
			}
		}
	}
	s := mixed(2000)
	for i := range len(s) + 1 {
		if p.Text(s[:i])+p.Text(s[i:]) != p.Text(s) || p.Back(s[:i])+p.Back(s[i:]) != p.Back(s) {
			t.Fatal("cut at", i)
		}
	}
}

// Tables that are made one behind the other are alike, and none is touched by
// what is asked of another one.
func TestP71AnyTwoAreAlike(t *testing.T) {
	a := permute.New()
	isTable(t, a)
	a.Text(string(falling()))
	b := permute.New()
	for _, x := range falling() {
		to, from := a.To(x), b.From(x)
		if b.To(x) != to || a.From(x) != from {
			t.Errorf("%02X: %02X and %02X, back %02X and %02X", x, to, b.To(x), a.From(x), from)
		}
		if b.From(a.To(x)) != x || a.To(b.From(x)) != x {
			t.Errorf("%02X, there by one and back by the other", x)
		}
	}
	for _, s := range texts() {
		if a.Text(s) != b.Text(s) || b.Back(s) != a.Back(s) || b.Back(a.Text(s)) != s || a.Text(b.Back(s)) != s {
			t.Errorf("%.40q, %d bytes", s, len(s))
		}
	}
	isTable(t, a)
	isTable(t, b)
	isTable(t, permute.New())
}

// What is asked twice is answered alike, whatever was asked between.
func TestP71AnswersStay(t *testing.T) {
	p := permute.New()
	for _, s := range texts() {
		there, back := p.Text(s), p.Back(s)
		wasThere, wasBack := strings.Clone(there), strings.Clone(back)
		p.Text(back)
		p.Back(there)
		p.Text(strings.Repeat("\xA0", len(s)))
		if there != wasThere || back != wasBack || p.Text(s) != wasThere || p.Back(s) != wasBack {
			t.Errorf("%.40q, %d bytes", s, len(s))
		}
	}
	isTable(t, p)
}

// What is handed in stays as it is, and what stands about it, too.
func TestP71WhatIsHandedInStays(t *testing.T) {
	p := permute.New()
	whole := mixed(5000)
	was := strings.Clone(whole)
	for _, cut := range []struct{ from, to int }{{0, 5000}, {0, 0}, {1, 2}, {10, 4000}, {4999, 5000}, {5000, 5000}} {
		s := whole[cut.from:cut.to]
		p.Text(s)
		p.Back(s)
		if whole != was {
			t.Fatal("a text from", cut.from, "to", cut.to, "was changed")
		}
	}
}

func TestP72UnlikeBytesBecomeUnlikeOnes(t *testing.T) {
	p := permute.New()
	for _, a := range every() {
		for _, b := range every() {
			if (p.To(a) == p.To(b)) != (a == b) {
				t.Fatalf("%02X and %02X become %02X and %02X", a, b, p.To(a), p.To(b))
			}
			if (p.From(a) == p.From(b)) != (a == b) {
				t.Fatalf("%02X and %02X come from %02X and %02X", a, b, p.From(a), p.From(b))
			}
		}
	}
	for _, s := range []string{string(every()), string(falling())} {
		for _, got := range []string{p.Text(s), p.Back(s)} {
			l := []byte(got)
			slices.Sort(l)
			if !bytes.Equal(l, every()) {
				t.Errorf("% X: not each byte once", got)
			}
		}
	}
}

func TestP72ThereAndBackIsNothing(t *testing.T) {
	p := permute.New()
	for _, b := range every() {
		if p.From(p.To(b)) != b || p.To(p.From(b)) != b {
			t.Errorf("%02X: %02X, and %02X", b, p.From(p.To(b)), p.To(p.From(b)))
		}
	}
	for _, s := range texts() {
		if p.Back(p.Text(s)) != s || p.Text(p.Back(s)) != s {
			t.Errorf("%.40q, %d bytes", s, len(s))
		}
	}
}

// Unlike texts become unlike ones, be they as long as each other or not.
func TestP72UnlikeTextsBecomeUnlikeOnes(t *testing.T) {
	p := permute.New()
	seen := map[string]string{}
	for _, s := range texts() {
		there := p.Text(s)
		if len(there) != len(s) {
			t.Errorf("%.40q: %d bytes of %d", s, len(there), len(s))
		}
		if other, ok := seen[there]; ok && other != s {
			t.Errorf("%.40q and %.40q become alike", s, other)
		}
		seen[there] = s
	}
}

func TestExamples(t *testing.T) {
	p := permute.New()
	for _, x := range []struct{ b, becomes byte }{{0x41, 0xC1}, {0x0A, 0x15}, {0x85, 0x25}, {0xF1, 0xDD}, {0x20, 0x40}} {
		if p.To(x.b) != x.becomes || p.From(x.becomes) != x.b {
			t.Errorf("To(%02X): %02X, From(%02X): %02X", x.b, p.To(x.b), x.becomes, p.From(x.becomes))
		}
	}
	if s := p.Text("\xF1\xBF\xB7\xBF"); s != "\xDD\x73\x66\x73" {
		t.Errorf("% X", s)
	}
	if s := p.Back("\xC1\x25"); s != "\x41\x85" {
		t.Errorf("% X", s)
	}
}
