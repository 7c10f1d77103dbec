package codec_test

import (
	"math"
	"slices"
	"strings"
	"testing"

	"pilcrow/api"
	"pilcrow/bocu"
	"pilcrow/codec"
	"pilcrow/compress"
	"pilcrow/ebcdic"
	"pilcrow/expand"
	"pilcrow/puny"
	"pilcrow/samples"
	"pilcrow/sign"
	"pilcrow/uni16"
	"pilcrow/uni32"
	"pilcrow/uni8"
)

// called: the chapter's names, in its order.
var called = []string{
	"utf-8", "utf-16be", "utf-16le", "utf-32be", "utf-32le", "utf-ebcdic", "punycode", "bocu-1", "scsu", "scsu-plain",
}

// ordered: the codecs in that order.
var ordered = []int{
	api.Utf8, api.Utf16BE, api.Utf16LE, api.Utf32BE, api.Utf32LE, api.Ebcdic, api.Puny, api.Bocu, api.Scsu, api.Plain,
}

// ownDecoder: the decoder that the chapter says for a codec.
func ownDecoder(c int) codec.Decoder {
	switch c {
	case api.Utf8:
		return uni8.NewDecoder()
	case api.Utf16BE:
		return uni16.NewDecoder(true)
	case api.Utf16LE:
		return uni16.NewDecoder(false)
	case api.Utf32BE:
		return uni32.NewDecoder(true)
	case api.Utf32LE:
		return uni32.NewDecoder(false)
	case api.Ebcdic:
		return ebcdic.NewDecoder()
	case api.Puny:
		return puny.NewDecoder()
	case api.Bocu:
		return bocu.NewDecoder()
	}
	return expand.NewDecoder()
}

// ownEncoder: the encoder that the chapter says for a codec.
func ownEncoder(c int) codec.Encoder {
	switch c {
	case api.Utf8:
		return uni8.NewEncoder()
	case api.Utf16BE:
		return uni16.NewEncoder(true)
	case api.Utf16LE:
		return uni16.NewEncoder(false)
	case api.Utf32BE:
		return uni32.NewEncoder(true)
	case api.Utf32LE:
		return uni32.NewEncoder(false)
	case api.Ebcdic:
		return ebcdic.NewEncoder()
	case api.Puny:
		return puny.NewEncoder()
	case api.Bocu:
		return bocu.NewEncoder()
	case api.Scsu:
		return compress.NewEncoder(false)
	}
	return compress.NewEncoder(true)
}

// newDecoder: the one that the package makes.
func newDecoder(t *testing.T, c int) codec.Decoder {
	t.Helper()
	d, err := codec.NewDecoder(c)
	if err != api.OK || d == nil {
		t.Fatalf("NewDecoder(%d): %v, %d", c, d, err)
	}
	return d
}

func newEncoder(t *testing.T, c int) codec.Encoder {
	t.Helper()
	e, err := codec.NewEncoder(c)
	if err != api.OK || e == nil {
		t.Fatalf("NewEncoder(%d): %v, %d", c, e, err)
	}
	return e
}

// carry: all that an encoder tells of a list that comes in parts, with little
// room, and its Fail.
func carry(e codec.Encoder, l []uint32, part, room int) (string, api.Fail) {
	var told strings.Builder
	for at := 0; at < len(l) && e.Fail().Err == api.OK; {
		eaten, s := e.Feed(l[at:min(at+part, len(l))], room)
		told.WriteString(s)
		at += eaten
	}
	e.End()
	for !e.Done() {
		_, s := e.Feed(nil, room)
		told.WriteString(s)
	}
	return told.String(), e.Fail()
}

// read: all that a decoder tells of a text that comes in parts, with little
// room, and its Fail.
func read(d codec.Decoder, s string, part, room int) ([]uint32, api.Fail) {
	var told []uint32
	for at := 0; at < len(s) && d.Fail().Err == api.OK; {
		eaten, l := d.Feed(s[at:min(at+part, len(s))], room)
		told = append(told, l...)
		at += eaten
	}
	d.End()
	for !d.Done() {
		_, l := d.Feed("", room)
		told = append(told, l...)
	}
	return told, d.Fail()
}

// way is how a machine is fed.
type way struct{ part, room int }

// ways: all at once, in parts of one, and with room of one.
func ways() []way {
	most := math.MaxInt32
	return []way{{most, most}, {1, most}, {most, 1}, {1, 1}, {3, 2}}
}

// isEncoded: Encode answers of a list what the codec's own encoder tells.
func isEncoded(t *testing.T, c int, l []uint32) string {
	t.Helper()
	s, f := codec.Encode(c, l...)
	for _, w := range ways() {
		if want, fail := carry(ownEncoder(c), l, w.part, w.room); s != want || f != fail {
			t.Errorf("Encode(%d, %s), %d numbers: %.40X %v, not %.40X %v (%v)", c, samples.Hex(l), len(l), s, f, want, fail, w)
		}
	}
	return s
}

// isDecoded: Decode answers of a text what the codec's own decoder tells.
func isDecoded(t *testing.T, c int, s string) []uint32 {
	t.Helper()
	l, f := codec.Decode(c, s)
	for _, w := range ways() {
		if want, fail := read(ownDecoder(c), s, w.part, w.room); !slices.Equal(l, want) || f != fail {
			t.Errorf("Decode(%d, %.40X), %d bytes: %s %v, not %s %v (%v)", c, s, len(s), samples.Hex(l), f, samples.Hex(want), fail, w)
		}
	}
	return l
}

// encodes: Encode answers these bytes, and this Fail.
func encodes(t *testing.T, c int, want string, fail api.Fail, l ...uint32) {
	t.Helper()
	if s, f := codec.Encode(c, l...); s != want || f != fail {
		t.Errorf("Encode(%d, %s): %.40X %v, not %.40X %v", c, samples.Hex(l), s, f, want, fail)
	}
}

// decodes: Decode answers these scalars, and this Fail.
func decodes(t *testing.T, c int, s string, fail api.Fail, want ...uint32) {
	t.Helper()
	if l, f := codec.Decode(c, s); !slices.Equal(l, want) || f != fail {
		t.Errorf("Decode(%d, %.40X): %s %v, not %s %v", c, s, samples.Hex(l), f, samples.Hex(want), fail)
	}
}

func wrong(at int) api.Fail { return api.Fail{Err: api.ErrScalar, At: at} }
func form(at int) api.Fail  { return api.Fail{Err: api.ErrForm, At: at} }
func cut(at int) api.Fail   { return api.Fail{Err: api.ErrCut, At: at} }

// right is the Fail of what is right.
var right = api.Fail{}

// lists: nothing, one scalar of each size, two, many, and more than a thousand.
func lists() [][]uint32 {
	l := [][]uint32{nil, {}}
	for _, a := range samples.Sizes() {
		l = append(l, []uint32{a}, []uint32{a, 0x41}, []uint32{0x41, a}, []uint32{a, a}, []uint32{0xFEFF, a}, []uint32{0x416, a, 0x436})
	}
	r := samples.From(18)
	for n := 3; n < 60; n++ {
		l = append(l, r.List(n))
	}
	return append(l, samples.Sizes(), slices.Repeat([]uint32{0x41, 0x4E00}, 900), r.List(1500))
}

func TestExamples(t *testing.T) {
	encodes(t, api.Utf16LE, "\x41\x00", right, 0x41)
	decodes(t, api.Bocu, "\x50", form(0))
	if got := codec.Codec("scsu"); got != 9 {
		t.Errorf("Codec(scsu): %d", got)
	}
}

// The examples of the whole, as far as they are a codec's.
func TestExamplesOfTheWhole(t *testing.T) {
	encodes(t, api.Utf8, "\x41\xC3\xA9\xE2\x82\xAC", right, 0x41, 0xE9, 0x20AC)
	encodes(t, api.Utf16LE, "\x41\x00\xE9\x00\xAC\x20", right, 0x41, 0xE9, 0x20AC)
	encodes(t, api.Ebcdic, "\xC1", right, 0x41)
	for i, s := range []string{
		"\xEF\xBB\xBF", "\xFE\xFF", "\xFF\xFE", "\x00\x00\xFE\xFF", "\xFF\xFE\x00\x00", "\xDD\x73\x66\x73", "", "\xFB\xEE\x28",
		"\x0E\xFE\xFF", "\x0E\xFE\xFF",
	} {
		if s != "" {
			encodes(t, ordered[i], s, right, 0xFEFF)
			decodes(t, ordered[i], s, right, 0xFEFF)
		}
	}
	encodes(t, api.Puny, "bcher-kva", right, 0x62, 0xFC, 0x63, 0x68, 0x65, 0x72)
	encodes(t, api.Scsu, "\x12\x9C\xBE\xC1", right, 0x41C, 0x43E, 0x441)
	encodes(t, api.Plain, "\x0F\x04\x1C\x04\x3E\x04\x41", right, 0x41C, 0x43E, 0x441)
	encodes(t, api.Bocu, "\xD3\xCA\x86\x0A\x91", right, 0x416, 0x436, 0x0A, 0x41)
	decodes(t, api.Utf8, "\xE0\x80", form(1))
	decodes(t, api.Utf16LE, "\x00\xDC", form(1))
	decodes(t, api.Bocu, "\x4F", form(0))
	decodes(t, api.Scsu, "\x18\x00", form(1))
	decodes(t, api.Puny, "a-!", cut(3))
}

func TestP181NamesAndCodecs(t *testing.T) {
	for i, name := range called {
		if got := codec.Name(ordered[i]); got != name {
			t.Errorf("Name(%d): %q, not %q", ordered[i], got, name)
		}
		if got := codec.Codec(name); got != ordered[i] {
			t.Errorf("Codec(%q): %d, not %d", name, got, ordered[i])
		}
	}
	for c := 1; c <= api.Codecs; c++ {
		if got := codec.Codec(codec.Name(c)); got != c {
			t.Errorf("%d is called %q, which is %d", c, codec.Name(c), got)
		}
	}
}

func TestP181NoSuchCodec(t *testing.T) {
	for _, c := range samples.NoCodecs() {
		if got := codec.Name(c); got != "" {
			t.Errorf("Name(%d): %q", c, got)
		}
	}
	for c := -70000; c < 70000; c++ {
		if got := codec.Name(c); (got != "") != (1 <= c && c <= api.Codecs) {
			t.Errorf("Name(%d): %q", c, got)
		}
	}
}

// misspelt are texts that are near a name: with one letter more, one less,
// another one, in capitals, and cut.
func misspelt(name string) []string {
	l := []string{strings.ToUpper(name), strings.ToUpper(name[:1]) + name[1:], name + name, name + "\n", name + "\x00", " " + name + " "}
	for i := range len(name) {
		l = append(l, name[:i], name[i+1:], name[:i]+name[i+1:], name[:i]+strings.ToUpper(name[i:i+1])+name[i+1:])
	}
	for i := range len(name) + 1 {
		for _, b := range []string{"a", "e", "-", "_", "1", "8", " ", "\x00", "\xFF"} {
			l = append(l, name[:i]+b+name[i:])
			if i < len(name) {
				l = append(l, name[:i]+b+name[i+1:])
			}
		}
	}
	return l
}

func TestP181NoSuchName(t *testing.T) {
	l := []string{
		"", "-", " ", "\x00", "utf", "utf-", "utf-7", "utf-9", "utf8", "utf_8", "utf-16", "utf-32", "utf-ebcdi", "ebcdic", "puny", "bocu", "plain",
		"scsu-", "scsu plain", "scsu-plain-scsu", "1", "9", strings.Join(called, ","), strings.Repeat("utf-8", 100000),
	}
	for _, name := range called {
		l = append(l, misspelt(name)...)
	}
	for _, s := range l {
		if got := codec.Codec(s); got != slices.Index(called, s)+1 {
			t.Errorf("Codec(%.40q): %d", s, got)
		}
	}
}

func TestP182NoSuchCodec(t *testing.T) {
	no := api.Fail{Err: api.ErrCodec}
	for _, c := range samples.NoCodecs() {
		encodes(t, c, "", no)
		encodes(t, c, "", no, 0x41)
		encodes(t, c, "", no, 0xD800)
		encodes(t, c, "", no, 0x41, 0x42, 0x110000)
		decodes(t, c, "", no)
		decodes(t, c, "A", no)
		decodes(t, c, "A\xFF", no)
	}
}

func TestP182Encode(t *testing.T) {
	for _, c := range ordered {
		for _, l := range lists() {
			isEncoded(t, c, l)
			if _, f := codec.Encode(c, l...); f != right {
				t.Errorf("Encode(%d, %s): %v", c, samples.Hex(l), f)
			}
		}
	}
}

func TestP182Nothing(t *testing.T) {
	for _, c := range ordered {
		encodes(t, c, "", right)
		encodes(t, c, "", right, []uint32{}...)
		decodes(t, c, "", right)
	}
}

// Each codec's bytes of scalars of each size, by the chapters' words.
func TestP182BytesOfEachSize(t *testing.T) {
	l := []uint32{0x41, 0xE9, 0x20AC, 0x1F600}
	for i, want := range []string{
		"\x41\xC3\xA9\xE2\x82\xAC\xF0\x9F\x98\x80",
		"\x00\x41\x00\xE9\x20\xAC\xD8\x3D\xDE\x00",
		"\x41\x00\xE9\x00\xAC\x20\x3D\xD8\x00\xDE",
		"\x00\x00\x00\x41\x00\x00\x00\xE9\x00\x00\x20\xAC\x00\x01\xF6\x00",
		"\x41\x00\x00\x00\xE9\x00\x00\x00\xAC\x20\x00\x00\x00\xF6\x01\x00",
	} {
		encodes(t, ordered[i], want, right, l...)
		decodes(t, ordered[i], want, right, l...)
	}
	encodes(t, api.Ebcdic, "\xC1\x0D\x25", right, 0x41, 0x0D, 0x85)
	decodes(t, api.Ebcdic, "\xC1\x0D\x25", right, 0x41, 0x0D, 0x85)
	encodes(t, api.Puny, "abc-", right, 0x61, 0x62, 0x63)
	decodes(t, api.Puny, "abc-", right, 0x61, 0x62, 0x63)
	for _, c := range []int{api.Scsu, api.Plain} {
		encodes(t, c, "\x41\xE9\x0A", right, 0x41, 0xE9, 0x0A)
	}
	encodes(t, api.Scsu, "\x0B\xE1\xEC\x80", right, 0x1F600)
	encodes(t, api.Plain, "\x0F\xD8\x3D\xDE\x00", right, 0x1F600)
}

// What stands ahead of a number that is no scalar is told, and its place.
func TestP182NoScalars(t *testing.T) {
	r := samples.From(5)
	for _, c := range ordered {
		for _, bad := range samples.NoScalars() {
			for _, n := range []int{0, 1, 2, 3, 50} {
				ahead := r.List(n)
				told, _ := codec.Encode(c, ahead...)
				if c == api.Puny {
					told = "" // all is told behind an end, and there is none
				}
				for _, behind := range [][]uint32{nil, {0x41}, {bad}, {0x41, 0x416, 0xD800}} {
					l := slices.Concat(ahead, []uint32{bad}, behind)
					encodes(t, c, told, wrong(n), l...)
					isEncoded(t, c, l)
				}
			}
		}
	}
}

func TestP182NoScalarBehindManyScalars(t *testing.T) {
	r := samples.From(6)
	ahead := r.List(1300)
	for _, c := range ordered {
		isEncoded(t, c, append(slices.Clone(ahead), 0xDFFF, 0x41))
	}
	encodes(t, api.Utf8, strings.Repeat("A", 3000), wrong(3000), append(slices.Repeat([]uint32{0x41}, 3000), 0x110000, 0x41)...)
}

func TestP182Broken(t *testing.T) {
	for _, c := range ordered {
		for _, b := range samples.Broken(c) {
			decodes(t, c, b.Text, b.Fail, b.Told...)
			isDecoded(t, c, b.Text)
		}
	}
}

// texts: those that are made of the lists by a codec, and what is near them:
// cut, with a byte changed, with others behind.
func texts(t *testing.T, c int) []string {
	t.Helper()
	r := samples.From(uint32(c))
	var out []string
	for _, l := range lists() {
		s, f := codec.Encode(c, l...)
		if f != right {
			t.Fatalf("Encode(%d, %s): %v", c, samples.Hex(l), f)
		}
		out = append(out, s, s+"\xFF", s+"A\x80", "A"+s)
		if s == "" {
			continue
		}
		for range 8 {
			at := r.Below(len(s))
			out = append(out, s[:at], s[:at]+string([]byte{byte(r.Below(256))})+s[at+1:])
		}
	}
	return out
}

func TestP182Decode(t *testing.T) {
	for _, c := range ordered {
		for _, s := range texts(t, c) {
			isDecoded(t, c, s)
		}
	}
}

func TestP182DecodeAnyBytes(t *testing.T) {
	r := samples.From(7)
	for n := range 400 {
		b := make([]byte, n%40)
		for i := range b {
			b[i] = byte(r.Below(256))
			if r.Below(2) == 0 {
				b[i] &= 0x7F
			}
		}
		for _, c := range ordered {
			isDecoded(t, c, string(b))
		}
	}
	for b := range 256 {
		for _, c := range ordered {
			isDecoded(t, c, string([]byte{byte(b)}))
			isDecoded(t, c, string([]byte{0x41, byte(b)}))
			isDecoded(t, c, string([]byte{byte(b), 0x41, 0x80, 0x41}))
		}
	}
}

// What stands ahead of a wrong byte is told, also if it is much.
func TestP182WrongBehindManyScalars(t *testing.T) {
	many := slices.Repeat([]uint32{0x41, 0x416, 0x436, 0x0A}, 400)
	for _, c := range ordered {
		s, _ := codec.Encode(c, many...)
		bad := samples.Broken(c)[0] // it goes wrong behind nothing, or behind a line's end
		told := many
		switch c {
		case api.Puny:
			told = nil // all is told behind the end, and there is none
		case api.Plain:
			bad = samples.Wrong{Text: "\xF2", Fail: form(0)} // what was written goes on in the Unicode mode
		}
		decodes(t, c, s+bad.Text, form(len(s)+bad.Fail.At), told...)
		isDecoded(t, c, s+bad.Text)
	}
}

// state is what a machine tells of itself.
type state struct {
	at   int
	fail api.Fail
	done bool
	kept int
}

func decoderState(d codec.Decoder) state { return state{d.At(), d.Fail(), d.Done(), 0} }
func encoderState(e codec.Encoder) state { return state{e.At(), e.Fail(), e.Done(), e.Kept()} }

func TestP183NoSuchCodec(t *testing.T) {
	for _, c := range samples.NoCodecs() {
		if d, err := codec.NewDecoder(c); d != nil || err != api.ErrCodec {
			t.Errorf("NewDecoder(%d): %v, %d", c, d, err)
		}
		if e, err := codec.NewEncoder(c); e != nil || err != api.ErrCodec {
			t.Errorf("NewEncoder(%d): %v, %d", c, e, err)
		}
	}
}

func TestP183AtTheBeginning(t *testing.T) {
	for _, c := range ordered {
		if got := decoderState(newDecoder(t, c)); got != (state{}) {
			t.Errorf("%d: a new decoder: %v", c, got)
		}
		if got := encoderState(newEncoder(t, c)); got != (state{}) {
			t.Errorf("%d: a new encoder: %v", c, got)
		}
	}
}

// rooms are rooms for a call, wrong ones among them.
func rooms() []int { return []int{1, 0, 2, -1, 7, 1, 3, math.MaxInt, 1, math.MinInt, 100, 1, 1} }

// together feeds two decoders with the same parts and rooms: they answer the
// same, call by call, also behind an end, or a failure.
func together(t *testing.T, c int, d, own codec.Decoder, s string, part int) {
	t.Helper()
	calls := rooms()
	same := func(what string, eaten, wantEaten int, l, want []uint32) {
		if eaten != wantEaten || !slices.Equal(l, want) || decoderState(d) != decoderState(own) {
			t.Errorf("%d, %.40X, parts of %d, %s: %d %s %v, not %d %s %v", c, s, part, what, eaten, samples.Hex(l), decoderState(d), wantEaten, samples.Hex(want), decoderState(own))
		}
	}
	feed := func(what, s string, room int) int {
		eaten, l := d.Feed(s, room)
		wantEaten, want := own.Feed(s, room)
		same(what, eaten, wantEaten, l, want)
		return wantEaten
	}
	same("at the beginning", 0, 0, nil, nil)
	for n, at := 0, 0; at < len(s) && n < 5*len(s); n++ {
		at += feed("fed", s[at:min(at+part, len(s))], calls[n%len(calls)])
	}
	for range 2 {
		d.End()
		own.End()
		same("ended", 0, 0, nil, nil)
		for _, room := range calls {
			feed("behind the end", "A", room)
		}
	}
}

func TestP183DecoderCallByCall(t *testing.T) {
	for _, c := range ordered {
		for _, s := range texts(t, c) {
			if len(s) > 300 {
				continue
			}
			for _, part := range []int{1, 2, 5, 1000} {
				together(t, c, newDecoder(t, c), ownDecoder(c), s, part)
			}
		}
	}
}

// alongside is the same of two encoders.
func alongside(t *testing.T, c int, e, own codec.Encoder, l []uint32, part int) {
	t.Helper()
	calls := rooms()
	same := func(what string, eaten, wantEaten int, s, want string) {
		if eaten != wantEaten || s != want || encoderState(e) != encoderState(own) {
			t.Errorf("%d, %s, parts of %d, %s: %d %.40X %v, not %d %.40X %v", c, samples.Hex(l), part, what, eaten, s, encoderState(e), wantEaten, want, encoderState(own))
		}
	}
	feed := func(what string, l []uint32, room int) int {
		eaten, s := e.Feed(l, room)
		wantEaten, want := own.Feed(l, room)
		same(what, eaten, wantEaten, s, want)
		return wantEaten
	}
	same("at the beginning", 0, 0, "", "")
	for n, at := 0, 0; at < len(l) && n < 5*len(l); n++ {
		at += feed("fed", l[at:min(at+part, len(l))], calls[n%len(calls)])
	}
	for range 2 {
		e.End()
		own.End()
		same("ended", 0, 0, "", "")
		for _, room := range calls {
			feed("behind the end", []uint32{0x41}, room)
		}
	}
}

func TestP183EncoderCallByCall(t *testing.T) {
	for _, c := range ordered {
		all := lists()
		for i, bad := range samples.NoScalars() {
			all = append(all, []uint32{bad}, []uint32{bad, 0x41}, []uint32{0x416, 0x436, 0x1F600, bad, 0x41}, append(slices.Clone(all[300+i]), bad, bad))
		}
		for _, l := range all {
			if len(l) > 300 {
				continue
			}
			for _, part := range []int{1, 2, 5, 1000} {
				alongside(t, c, newEncoder(t, c), ownEncoder(c), l, part)
			}
		}
	}
}

// Two machines of one codec know nothing of each other: fed by turns, each
// tells what it tells alone; one fails, and the other one goes on.
func TestP183DecodersAreForThemselves(t *testing.T) {
	for _, c := range ordered {
		a, _ := codec.Encode(c, 0x416, 0x436, 0x1F600, 0x41, 0xFEFF)
		b, _ := codec.Encode(c, 0x3041, 0x41, 0x4E00, 0xE9)
		for _, bad := range []string{"", "\xFF\xFF\xFF\xFF\x80\x0C"} {
			one, other, again := newDecoder(t, c), newDecoder(t, c), newDecoder(t, c)
			ownOne, ownOther := ownDecoder(c), ownDecoder(c)
			for i := range max(len(a), len(b)+len(bad)) {
				if i < len(a) {
					together(t, c, sole{one}, sole{ownOne}, a[i:i+1], 1)
				}
				if s := b + bad; i < len(s) {
					together(t, c, sole{other}, sole{ownOther}, s[i:i+1], 1)
				}
			}
			together(t, c, one, ownOne, "", 1)
			together(t, c, other, ownOther, "", 1)
			together(t, c, again, ownDecoder(c), a, 1)
		}
	}
}

// sole is a decoder that isn't ended.
type sole struct{ codec.Decoder }

func (s sole) End() {}

func TestP183EncodersAreForThemselves(t *testing.T) {
	a, b := []uint32{0x416, 0x436, 0x1F600, 0x41, 0xFEFF}, []uint32{0x3041, 0x41, 0x4E00, 0xE9, 0xD800, 0x41}
	for _, c := range ordered {
		one, other := newEncoder(t, c), newEncoder(t, c)
		ownOne, ownOther := ownEncoder(c), ownEncoder(c)
		for i := range b {
			alongside(t, c, lone{one}, lone{ownOne}, a[min(i, len(a)):min(i+1, len(a))], 1)
			alongside(t, c, lone{other}, lone{ownOther}, b[i:i+1], 1)
		}
		alongside(t, c, one, ownOne, nil, 1)
		alongside(t, c, other, ownOther, nil, 1)
		alongside(t, c, newEncoder(t, c), ownEncoder(c), a, 1)
	}
}

// lone is an encoder that isn't ended.
type lone struct{ codec.Encoder }

func (l lone) End() {}

func TestP184ThereAndBack(t *testing.T) {
	for _, c := range ordered {
		for _, l := range lists() {
			s, f := codec.Encode(c, l...)
			if f != right {
				t.Errorf("Encode(%d, %s): %v", c, samples.Hex(l), f)
			}
			decodes(t, c, s, right, l...)
		}
	}
}

func TestP184EveryScalarThereAndBack(t *testing.T) {
	var l []uint32
	for a := uint32(0); a <= api.Top; a++ {
		if a < 0xD800 || a > 0xDFFF {
			l = append(l, a)
		}
	}
	for _, c := range ordered {
		all := l
		if c == api.Puny { // each of its places is counted from all that stand ahead
			all = l[:3000]
		}
		s, _ := codec.Encode(c, all...)
		if got, f := codec.Decode(c, s); !slices.Equal(got, all) || f != right {
			t.Errorf("%d: not there and back: %v", c, f)
		}
	}
	for i := 0; i+40 < len(l); i += 3001 {
		s, _ := codec.Encode(api.Puny, l[i:i+40]...)
		decodes(t, api.Puny, s, right, l[i:i+40]...)
	}
}

// Scsu reads what Plain wrote, and the other way round.
func TestP184ScsuAndPlain(t *testing.T) {
	differ := 0
	for _, l := range lists() {
		scsu, _ := codec.Encode(api.Scsu, l...)
		plain, _ := codec.Encode(api.Plain, l...)
		decodes(t, api.Plain, scsu, right, l...)
		decodes(t, api.Scsu, plain, right, l...)
		if scsu != plain {
			differ++
		}
	}
	if differ < 50 {
		t.Errorf("%d texts only are written otherwise by the plain profile", differ)
	}
	for _, s := range texts(t, api.Scsu) {
		l, f := codec.Decode(api.Scsu, s)
		decodes(t, api.Plain, s, f, l...)
	}
}

// No codec is another one: of some scalars each makes bytes of its own.
func TestP184EachCodecIsItsOwn(t *testing.T) {
	by := map[string]int{}
	for _, c := range ordered {
		s, _ := codec.Encode(c, 0x416, 0x436, 0x1F600, 0x85, 0x41, 0x4E00, 0x42)
		if other, ok := by[s]; ok {
			t.Errorf("%d and %d make the same", c, other)
		}
		by[s] = c
	}
}

func TestP184Signatures(t *testing.T) {
	all := append(lists(), []uint32{0xFEFF, 0xFEFF}, []uint32{0xFEFF, 0, 0})
	for _, c := range ordered {
		for _, l := range all {
			s, _ := codec.Encode(c, append([]uint32{api.Mark}, l...)...)
			switch {
			case c == api.Plain && !strings.HasPrefix(s, "\x0E\xFE\xFF"), !strings.HasPrefix(s, sign.Of(c)):
				t.Errorf("Encode(%d, FEFF %s): %.40X; signature: %X", c, samples.Hex(l), s, sign.Of(c))
			case (sign.Of(c) == "") != (c == api.Puny || c == api.Plain):
				t.Errorf("%d: the signature % X", c, sign.Of(c))
			}
		}
	}
}

// A signature is decoded as the scalar that it is made of.
func TestP184SignaturesAreTheMark(t *testing.T) {
	for _, c := range ordered {
		if s := sign.Of(c); s != "" {
			decodes(t, c, s, right, api.Mark)
			encodes(t, c, s, right, api.Mark)
		}
	}
}

func TestWhatIsHandedInStays(t *testing.T) {
	r := samples.From(8)
	for _, c := range ordered {
		for _, n := range []int{0, 1, 2, 5, 40, 1200} {
			for _, bad := range []bool{false, true} {
				l := r.List(n)
				if bad && n > 1 {
					l[n-2] = 0xD800
				}
				list, all := samples.Roomy(l, 0xD800)
				was := slices.Clone(all)
				codec.Encode(c, list...)
				carry(newEncoder(t, c), list, 3, 2)
				carry(newEncoder(t, c), list, n+1, 2)
				if !slices.Equal(all, was) {
					t.Errorf("%d: a list of %d isn't what it was", c, n)
				}
			}
		}
	}
}

// A machine doesn't keep the list that it was fed: what becomes of that plays
// no part.
func TestWhatIsHandedInIsNotKept(t *testing.T) {
	l := []uint32{0x416, 0x436, 0x1F600, 0x41, 0x4E00}
	for _, c := range ordered {
		want, _ := codec.Encode(c, l...)
		e, list := newEncoder(t, c), slices.Clone(l)
		var got strings.Builder
		for at := 0; at < len(list) && e.Fail() == right; {
			eaten, s := e.Feed(list[at:], 1)
			got.WriteString(s)
			for i := at; i < at+eaten; i++ {
				list[i] = 0x42
			}
			at += eaten
		}
		s, _ := carry(e, nil, 1, 1)
		if got.String()+s != want {
			t.Errorf("%d: % X, not % X", c, got.String()+s, want)
		}
	}
}

func TestAnswersAreNewMemory(t *testing.T) {
	for _, c := range ordered {
		for _, s := range texts(t, c) {
			one, f := codec.Decode(c, s)
			want := slices.Clone(one)
			other, _ := codec.Decode(c, s)
			samples.Spoil(one, 0xDEAD)
			if !slices.Equal(other, want) {
				t.Errorf("Decode(%d, %.40X): two answers share memory", c, s)
			}
			decodes(t, c, s, f, want...)
		}
	}
}

// What a machine told may be written over: it tells the same behind that.
func TestWhatAMachineToldIsNewMemory(t *testing.T) {
	l := []uint32{0x416, 0x436, 0x1F600, 0x41, 0x4E00, 0x42, 0x43, 0x44}
	for _, c := range ordered {
		s, _ := codec.Encode(c, l...)
		d := newDecoder(t, c)
		var got []uint32
		for at := 0; at < len(s) && d.Fail() == right; {
			eaten, told := d.Feed(s[at:], 2)
			got = append(got, told...)
			samples.Spoil(told, 0xDEAD)
			at += eaten
		}
		d.End()
		for !d.Done() {
			_, told := d.Feed("", 3)
			got = append(got, told...)
			samples.Spoil(told, 0xDEAD)
		}
		if !slices.Equal(got, l) {
			t.Errorf("%d: %X, not %X", c, got, l)
		}
	}
}

// What one call answers doesn't hang on the ones ahead of it.
func TestAnswersHangOnArgumentsAlone(t *testing.T) {
	l := []uint32{0x416, 0x436, 0x1F600, 0x41, 0x4E00}
	for _, c := range ordered {
		s, f := codec.Encode(c, l...)
		for _, other := range ordered {
			codec.Encode(other, 0x3041, 0xD800)
			codec.Decode(other, "\x12\xD3\xFF\xF0")
			codec.Encode(other, 0xFEFF, 0x4E00)
			encodes(t, c, s, f, l...)
			decodes(t, c, s, f, l...)
		}
	}
}
