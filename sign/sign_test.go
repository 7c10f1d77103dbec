package sign_test

import (
	"math"
	"slices"
	"strings"
	"testing"

	"pilcrow/api"
	"pilcrow/bocu"
	"pilcrow/compress"
	"pilcrow/ebcdic"
	"pilcrow/puny"
	"pilcrow/sign"
	"pilcrow/uni16"
	"pilcrow/uni32"
	"pilcrow/uni8"
)

// own is a codec's signature.
type own struct {
	codec int
	s     string
}

// owns: the chapter's list, for the codecs that have one.
func owns() []own {
	return []own{
		{api.Utf8, "\xEF\xBB\xBF"},
		{api.Utf16BE, "\xFE\xFF"},
		{api.Utf16LE, "\xFF\xFE"},
		{api.Utf32BE, "\x00\x00\xFE\xFF"},
		{api.Utf32LE, "\xFF\xFE\x00\x00"},
		{api.Ebcdic, "\xDD\x73\x66\x73"},
		{api.Bocu, "\xFB\xEE\x28"},
		{api.Scsu, "\x0E\xFE\xFF"},
	}
}

// none are numbers of codecs that have no signature, and of no codecs.
func none() []int {
	l := []int{
		api.Puny, api.Plain, 0, api.Codecs + 1, api.Codecs + 2, 15, 16, 17, 32, 255, 256, 257, 1 << 16, 1<<16 + 1, 1 << 32, 1<<32 + 1,
		math.MinInt, math.MinInt + 1, math.MinInt + 2, math.MinInt32, math.MaxInt32, math.MaxInt - 1, math.MaxInt,
	}
	for c := 1; c <= 2*api.Codecs; c++ {
		l = append(l, -c, api.Codecs+c, 1<<8+c, 1<<32+c, math.MinInt+c)
	}
	return l
}

// defined: a codec's signature by the chapter's list.
func defined(codec int) string {
	for _, o := range owns() {
		if o.codec == codec {
			return o.s
		}
	}
	return ""
}

// told is what Sniff answers.
type told struct {
	codec, n int
	ok       bool
}

func sniffed(s string) told {
	codec, n, ok := sign.Sniff(s)
	return told{codec, n, ok}
}

// wanted: what Sniff shall answer, by the chapter's words.
func wanted(s string) told {
	for n := min(len(s), 4); n > 0; n-- {
		for _, o := range owns() {
			if o.s == s[:n] {
				return told{o.codec, n, true}
			}
		}
	}
	return told{}
}

// begins: what Begins shall answer, by the chapter's words.
func begins(s string, codecs []int) bool {
	for _, o := range owns() {
		if slices.Contains(codecs, o.codec) && len(s) >= len(o.s) && s[:len(o.s)] == o.s {
			return true
		}
	}
	return false
}

// one: a text of one byte.
func one(b int) string { return string([]byte{byte(b)}) }

// near are the signatures alone, with others behind them, ahead of them, and
// cut, and with one byte changed.
func near() []string {
	l := []string{
		"", "A", "\x00", "\xFF", "any", "\x00\x00", "\x00\x00\x00\x00", "\xFF\xFF", "\xFE\xFE", strings.Repeat("any", 90), strings.Repeat("\x00", 5000),
	}
	for _, o := range owns() {
		for n := range len(o.s) {
			l = append(l, o.s[:n], o.s[n:], o.s[:n]+"A", "A"+o.s[n:], o.s[:n]+"A"+o.s[n:], o.s[:n]+o.s[n:n+1]+o.s[n:])
		}
		for _, tail := range []string{"", "A", "\x00", "\x00\x00", "\x00\x00\x00", "\xFE\xFF", "\xFF", strings.Repeat("any", 90), strings.Repeat("\x00", 5000)} {
			l = append(l, o.s+tail, "\x00"+o.s+tail, "A"+o.s+tail)
		}
		for _, p := range owns() {
			l = append(l, o.s+p.s)
		}
	}
	return l
}

// changed: a text with another byte at a place.
func changed(s string, at, b int) string { return s[:at] + one(b) + s[at+1:] }

// isSniffed: Sniff answers of a text what the chapter's words say.
func isSniffed(t *testing.T, s string) {
	t.Helper()
	if got, want := sniffed(s), wanted(s); got != want {
		t.Errorf("Sniff(%.40q), %d bytes: %v, not %v", s, len(s), got, want)
	}
}

// isOf: a text begins as that codec's.
func isOf(t *testing.T, s string, codec, n int) {
	t.Helper()
	if got, want := sniffed(s), (told{codec, n, n > 0}); got != want {
		t.Errorf("Sniff(%.40q), %d bytes: %v, not %v", s, len(s), got, want)
	}
}

// isBegun: Begins answers of a text and codecs what the chapter's words say.
func isBegun(t *testing.T, s string, codecs ...int) {
	t.Helper()
	if got, want := sign.Begins(s, codecs...), begins(s, codecs); got != want {
		t.Errorf("Begins(%.40q, %d): %v, not %v", s, codecs, got, want)
	}
}

func TestExamples(t *testing.T) {
	isOf(t, "\xEF\xBB\xBF\x41", api.Utf8, 3)
	isOf(t, "\xFF\xFE\x00\x41", api.Utf16LE, 2)
	isOf(t, "\xEF\xBB", 0, 0)
}

func TestP171EachCodec(t *testing.T) {
	for codec, want := range []string{
		"", "\xEF\xBB\xBF", "\xFE\xFF", "\xFF\xFE", "\x00\x00\xFE\xFF", "\xFF\xFE\x00\x00", "\xDD\x73\x66\x73", "", "\xFB\xEE\x28",
		"\x0E\xFE\xFF", "", "",
	} {
		if got := sign.Of(codec); got != want {
			t.Errorf("Of(%d): % X, not % X", codec, got, want)
		}
	}
}

func TestP171NoSignature(t *testing.T) {
	for _, codec := range none() {
		if got := sign.Of(codec); got != "" {
			t.Errorf("Of(%d): % X", codec, got)
		}
	}
	for codec := -70000; codec < 70000; codec++ {
		if got := sign.Of(codec); got != defined(codec) {
			t.Errorf("Of(%d): % X", codec, got)
		}
	}
}

// encoder is what all codecs' encoders have.
type encoder interface {
	Feed(l []uint32, room int) (int, string)
	End()
}

// made: what an encoder makes of a list.
func made(e encoder, l ...uint32) string {
	_, s := e.Feed(l, 100)
	e.End()
	_, rest := e.Feed(nil, 100)
	return s + rest
}

func encoders() map[int]func() encoder {
	return map[int]func() encoder{
		api.Utf8:    func() encoder { return uni8.NewEncoder() },
		api.Utf16BE: func() encoder { return uni16.NewEncoder(true) },
		api.Utf16LE: func() encoder { return uni16.NewEncoder(false) },
		api.Utf32BE: func() encoder { return uni32.NewEncoder(true) },
		api.Utf32LE: func() encoder { return uni32.NewEncoder(false) },
		api.Ebcdic:  func() encoder { return ebcdic.NewEncoder() },
		api.Puny:    func() encoder { return puny.NewEncoder() },
		api.Bocu:    func() encoder { return bocu.NewEncoder() },
		api.Scsu:    func() encoder { return compress.NewEncoder(false) },
		api.Plain:   func() encoder { return compress.NewEncoder(true) },
	}
}

// A signature is what its codec makes of the mark, where that is the first
// scalar, whatever is behind it.
func TestP171WhatIsMadeOfTheMark(t *testing.T) {
	for _, o := range owns() {
		fresh := encoders()[o.codec]
		if got := made(fresh(), api.Mark); got != o.s || sign.Of(o.codec) != got {
			t.Errorf("%d: % X is made of the mark; signature: % X", o.codec, got, sign.Of(o.codec))
		}
		for _, next := range []uint32{1, 0x41, 0xE9, 0x416, 0x20AC, 0x4E00, 0xFEFF, 0x1F600, api.Top} {
			if got := made(fresh(), api.Mark, next); !strings.HasPrefix(got, sign.Of(o.codec)) {
				t.Errorf("%d: % X is made of the mark and %X; signature: % X", o.codec, got, next, sign.Of(o.codec))
			}
		}
	}
}

func TestP172ShortTexts(t *testing.T) {
	isOf(t, "", 0, 0)
	for a := range 256 {
		isOf(t, one(a), 0, 0)
		for b := range 256 {
			isSniffed(t, one(a)+one(b))
		}
	}
}

// edges are bytes of the signatures, those beside them, and some others.
func edges() []int {
	l := []int{0x01, 0x0D, 0x0F, 0x10, 0x41, 0x7F, 0x80}
	for _, o := range owns() {
		for i := range len(o.s) {
			b := int(o.s[i])
			l = append(l, b, b&0xFF^1, (b+1)&0xFF, (b+0xFF)&0xFF)
		}
	}
	slices.Sort(l)
	return slices.Compact(l)
}

func TestP172TextsOfThreeAndFourBytes(t *testing.T) {
	l := edges()
	for _, a := range l {
		for _, b := range l {
			for _, c := range l {
				s := one(a) + one(b) + one(c)
				isSniffed(t, s)
				for _, d := range l {
					isSniffed(t, s+one(d))
				}
			}
		}
	}
}

func TestP172NearTexts(t *testing.T) {
	for _, s := range near() {
		isSniffed(t, s)
	}
	isOf(t, strings.Repeat("\xEF\xBB\xBF", 1<<20), api.Utf8, 3)
	isOf(t, strings.Repeat("\x00", 1<<22), 0, 0)
}

func TestP172EachSignature(t *testing.T) {
	for _, o := range owns() {
		isOf(t, o.s, o.codec, len(o.s))
		isOf(t, o.s+"A", o.codec, len(o.s))
		isOf(t, o.s+o.s, o.codec, len(o.s))
		isOf(t, o.s+strings.Repeat("any", 50000), o.codec, len(o.s))
		isOf(t, "A"+o.s, 0, 0)
	}
	for _, o := range owns() {
		for n := range len(o.s) {
			if o.codec == api.Utf32LE && n >= 2 {
				isOf(t, o.s[:n], api.Utf16LE, 2)
			} else {
				isOf(t, o.s[:n], 0, 0)
			}
		}
	}
}

func TestP172OneByteChanged(t *testing.T) {
	for _, o := range owns() {
		for at := range len(o.s) {
			for b := range 256 {
				isSniffed(t, changed(o.s, at, b))
				isSniffed(t, changed(o.s, at, b)+"any")
			}
		}
	}
	isOf(t, "\xEF\xBB\xBE", 0, 0)
	isOf(t, "\xFF\xFE\x00\x01", api.Utf16LE, 2)
	isOf(t, "\x00\x00\xFF\xFE", 0, 0)
}

func TestP172BeginsAsOne(t *testing.T) {
	for _, s := range near() {
		isBegun(t, s)
		for codec := -3; codec <= api.Codecs+3; codec++ {
			isBegun(t, s, codec)
			isBegun(t, s, codec, codec)
		}
	}
	for _, o := range owns() {
		if !sign.Begins(o.s, o.codec) || !sign.Begins(o.s+"any", o.codec, o.codec) {
			t.Errorf("% X begins as that of %d", o.s, o.codec)
		}
		if sign.Begins(o.s) || sign.Begins(o.s, nil...) || sign.Begins(o.s[:len(o.s)-1], o.codec) {
			t.Errorf("% X: begins as that of no codecs, or a byte less as that of %d", o.s, o.codec)
		}
	}
}

// A text that is Utf32LE's by Sniff begins with Utf16LE's signature too.
func TestP172BeginsWithTheShorterOne(t *testing.T) {
	if s := "\xFF\xFE\x00\x00"; !sign.Begins(s, api.Utf16LE) || !sign.Begins(s, api.Utf32LE) || sign.Begins(s[:3], api.Utf32LE) {
		t.Error("FF FE 00 00")
	}
}

// Each text against each set of codecs, and of some numbers that are none.
func TestP172BeginsAsOneOfMany(t *testing.T) {
	texts := []string{"", "A", "\xFF\xFE\x00", "\xFF\xFE\x00\x01", "\xEF\xBB", "\x00\x00\xFE", "A\xEF\xBB\xBF"}
	for _, o := range owns() {
		texts = append(texts, o.s, o.s+"any")
	}
	for set := range 1 << (api.Codecs + 2) {
		var up, down []int
		for c := range api.Codecs + 2 {
			if set>>c&1 == 1 {
				up = append(up, c)
				down = append([]int{c}, down...)
			}
		}
		for _, s := range texts {
			isBegun(t, s, up...)
			isBegun(t, s, down...)
		}
	}
}

func TestP172BeginsAsThatOfNone(t *testing.T) {
	for _, s := range near() {
		for _, codec := range none() {
			isBegun(t, s, codec)
			for _, o := range owns() {
				isBegun(t, s, codec, o.codec)
				isBegun(t, s, o.codec, codec, codec)
			}
		}
		if sign.Begins(s, none()...) {
			t.Errorf("%.40q begins as that of a codec that has none", s)
		}
	}
	var long []int
	for range 1000 {
		long = append(long, none()...)
	}
	if sign.Begins("\xFE\xFF", long...) || !sign.Begins("\xFE\xFF", append(long, api.Utf16BE)...) {
		t.Error("behind many numbers of no codecs")
	}
}

func TestP173TheLongerOne(t *testing.T) {
	isOf(t, "\xFF\xFE", api.Utf16LE, 2)
	isOf(t, "\xFF\xFE\x00", api.Utf16LE, 2)
	isOf(t, "\xFF\xFE\x00\x00", api.Utf32LE, 4)
	isOf(t, "\xFF\xFE\x00\x00\x41", api.Utf32LE, 4)
	isOf(t, "\xFF\xFE\x00\x01", api.Utf16LE, 2)
	isOf(t, "\xFF\xFE\x01\x00", api.Utf16LE, 2)
	isOf(t, "\xFF\xFE\x01\x00\x00\x00", api.Utf16LE, 2)
	isOf(t, "\xFF\xFE\x41\x00\x00\x00", api.Utf16LE, 2)
	isOf(t, "\xFE\xFF\x00\x00", api.Utf16BE, 2)
	for a := range 256 {
		for b := range 256 {
			codec, n := api.Utf16LE, 2
			if a == 0 && b == 0 {
				codec, n = api.Utf32LE, 4
			}
			isOf(t, "\xFF\xFE"+one(a)+one(b), codec, n)
			isOf(t, "\xFF\xFE"+one(a)+one(b)+"\x00\x00", codec, n)
		}
	}
}

// A text with a codec's signature ahead is that codec's, whatever is behind
// it, but one of Utf16LE that goes on with 00 00.
func TestP173SignedTexts(t *testing.T) {
	lists := [][]uint32{nil, {0}, {0, 0}, {0, 0x41}, {0x41}, {0x41, 0}, {0x100}, {0xFEFF}, {0xFFFE}, {0x10000}, {0x1F600, 0x20AC}, {api.Top}}
	for _, o := range owns() {
		for _, l := range lists {
			text := made(encoders()[o.codec](), l...)
			codec, n := o.codec, len(o.s)
			if codec == api.Utf16LE && strings.HasPrefix(text, "\x00\x00") {
				codec, n = api.Utf32LE, 4
			}
			isOf(t, sign.Of(o.codec)+text, codec, n)
			if !sign.Begins(sign.Of(o.codec)+text, o.codec) {
				t.Errorf("%d, % X: doesn't begin with its own signature", o.codec, text)
			}
		}
		for a := range 256 {
			for _, tail := range []string{"", "\x00", "\x01", "\xFE", "\xFF"} {
				if text := one(a) + tail; o.codec != api.Utf16LE || text != "\x00\x00" {
					isOf(t, sign.Of(o.codec)+text, o.codec, len(o.s))
				}
			}
		}
	}
}

// What is handed in stays, its spare room too.
func TestCodecsStay(t *testing.T) {
	whole := []int{api.Scsu, api.Utf8, -1, api.Utf8, 0, 77, api.Bocu, 99, 98, 97}
	keep := slices.Clone(whole)
	for n := range whole {
		for _, s := range near() {
			sign.Begins(s, whole[:n]...)
		}
		if !slices.Equal(whole, keep) {
			t.Fatalf("%d of the codecs: %d", n, whole)
		}
	}
}

// A call's answer hangs on nothing but its arguments.
func TestAnswersStay(t *testing.T) {
	l := near()
	var first []told
	for _, s := range l {
		first = append(first, sniffed(s))
	}
	for i := len(l) - 1; i >= 0; i-- {
		sign.Begins(l[i], api.Utf32LE, api.Utf8, api.Utf16LE)
		sign.Of(i)
		if got := sniffed(l[i]); got != first[i] {
			t.Errorf("%.40q: %v, and ahead %v", l[i], got, first[i])
		}
	}
}
