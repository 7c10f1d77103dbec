package puny_test

import (
	"fmt"
	"math"
	"math/big"
	"slices"
	"strings"
	"testing"

	"pilcrow/api"
	"pilcrow/puny"
)

// row is all digits with small letters, each at the place that it is worth.
const row = "abcdefghijklmnopqrstuvwxyz0123456789"

// worth: a digit's, -1 if it is none.
func worth(b byte) int {
	if 'A' <= b && b <= 'Z' {
		b += 'a' - 'A'
	}
	return strings.IndexByte(row, b)
}

// threshold of a place under a bias.
func threshold(place, under int) int {
	return min(max(36*(place+1)-under, 1), 26)
}

// adapt: the next bias, by layer 9's chapter.
func adapt(delta *big.Int, points int, first bool) int {
	by := int64(2)
	if first {
		by = 700
	}
	d := new(big.Int).Div(delta, big.NewInt(by))
	d.Add(d, new(big.Int).Div(d, big.NewInt(int64(points))))
	k := 0
	for ; d.Cmp(big.NewInt(455)) > 0; k++ {
		d.Div(d, big.NewInt(35))
	}
	left := int(d.Int64())
	return 36*k + 36*left/(left+38)
}

// got: the number that digits begin with, of any size, and what is behind it;
// nil, if there is none.
func got(s string, under int) (*big.Int, string) {
	n, weight := new(big.Int), big.NewInt(1)
	for i := range len(s) {
		d := worth(s[i])
		if d < 0 {
			return nil, ""
		}
		n.Add(n, new(big.Int).Mul(weight, big.NewInt(int64(d))))
		t := threshold(i, under)
		if d < t {
			if n.Cmp(big.NewInt(1<<62)) > 0 {
				return nil, ""
			}
			return n, s[i+1:]
		}
		weight.Mul(weight, big.NewInt(int64(36-t)))
	}
	return nil, ""
}

// put: a number's digits.
func put(n uint64, under int) string {
	s := ""
	for place := 0; ; place++ {
		t := uint64(threshold(place, under))
		if n < t {
			return s + row[n:n+1]
		}
		d := t + (n-t)%(36-t)
		s += row[d : d+1]
		n = (n - t) / (36 - t)
	}
}

// isScalar: what layer 1's chapter says that a scalar is.
func isScalar(c uint32) bool { return c <= 0xD7FF || c >= 0xE000 && c <= 0x10FFFF }

// split: a text's basic scalars, and its digits.
func split(s string) (string, string) {
	for i := len(s) - 1; i > 0; i-- {
		if s[i] == '-' {
			return s[:i], s[i+1:]
		}
	}
	return "", s
}

// meaning: what a text denotes, step by step as the chapter says it, with
// numbers of any size; and whether it denotes something.
func meaning(s string) ([]uint32, bool) {
	for i := range len(s) {
		if s[i] >= 0x80 {
			return nil, false
		}
	}
	basic, digits := split(s)
	var list []uint32
	for i := range len(basic) {
		list = append(list, uint32(basic[i]))
	}
	n, i, under := big.NewInt(0x80), new(big.Int), 72
	for first := true; digits != ""; first = false {
		var delta *big.Int
		if delta, digits = got(digits, under); delta == nil {
			return nil, false
		}
		i.Add(i, delta)
		times := new(big.Int)
		times.DivMod(i, big.NewInt(int64(len(list)+1)), i)
		n.Add(n, times)
		if n.Cmp(big.NewInt(0x10FFFF)) > 0 || !isScalar(uint32(n.Int64())) {
			return nil, false
		}
		list = slices.Insert(list, int(i.Int64()), uint32(n.Int64()))
		i.Add(i, big.NewInt(1))
		under = adapt(delta, len(list), first)
	}
	return list, true
}

// spelling: the text of a list, as the standard makes it: all places are gone
// through once for each scalar that there is, and those that are passed are
// counted.
func spelling(l []uint32) string {
	s, in := "", 0
	for _, c := range l {
		if c < 0x80 {
			s += string(rune(c))
			in++
		}
	}
	if in > 0 {
		s += "-"
	}
	n, delta, under := uint32(0x80), uint64(0), 72
	for first := true; in < len(l); n++ {
		next := uint32(math.MaxUint32)
		for _, c := range l {
			if c >= n {
				next = min(next, c)
			}
		}
		delta += uint64(next-n) * uint64(in+1)
		n = next
		for _, c := range l {
			if c < n {
				delta++
			}
			if c == n {
				s += put(delta, under)
				in++
				under = adapt(new(big.Int).SetUint64(delta), in, first)
				delta, first = 0, false
			}
		}
		delta++
	}
	return s
}

// lowered: a text with small letters among its digits.
func lowered(s string) string {
	_, digits := split(s)
	return s[:len(s)-len(digits)] + strings.ToLower(digits)
}

// listOf: the scalars of a text of Go.
func listOf(s string) []uint32 {
	var l []uint32
	for _, r := range s {
		l = append(l, uint32(r))
	}
	return l
}

// known: lists, and their texts: the chapter's examples, those of the standard,
// and some others.
var known = []struct {
	l []uint32
	s string
}{
	{nil, ""},
	{listOf("bücher"), "bcher-kva"},
	{listOf("ab"), "ab-"},
	{listOf("-"), "--"},
	{listOf("--"), "---"},
	{listOf("-a-"), "-a--"},
	{listOf("ü"), "tda"},
	{listOf("-ü"), "--eha"},
	{listOf("\u0080"), "a"},
	{listOf("\u0080\u0080"), "aa"},
	{listOf("\U0010FFFF"), "dn32g"},
	{listOf("\uD7FF"), "hb9b"},
	{listOf("\uE000"), "0y0c"},
	{listOf("a\uD7FF"), "a-pc4g"},
	{listOf("a\uE000"), "a-so7g"},
	{listOf("\uD7FF\uD7FF"), "hb9ba"},
	{listOf("ليهمابتكلموشعربي؟"), "egbpdaj6bu4bxfgehfvwxn"},
	{listOf("他们为什么不说中文"), "ihqwcrb4cv8a8dqg056pqjye"},
	{listOf("他們爲什麽不說中文"), "ihqwctvzc91f659drss3x8bo0yb"},
	{listOf("Pročprostěnemluvíčesky"), "Proprostnemluvesky-uyb24dma41a"},
	{listOf("למההםפשוטלאמדבריםעברית"), "4dbcagdahymbxekheh6e0a7fei0b"},
	{listOf("यहलोगहिन्दीक्योंनहींबोलसकतेहैं"), "i1baa7eci9glrd9b2ae1bj0hfcgg6iyaf8o0a1dig0cd"},
	{listOf("なぜみんな日本語を話してくれないのか"), "n8jok5ay5dzabd5bym9f0cm5685rrjetr6pdxa"},
	{listOf("세계의모든사람들이한국어를이해한다면얼마나좋을까"), "989aomsvi5e83db1d2a355cv1e0vak1dwrv93d5xbh15a0dt30a5jpsd879ccm6fea98c"},
	{listOf("почемужеонинеговорятпорусски"), "b1abfaaepdrnnbgefbadotcwatmq2g4l"},
	{listOf("PorquénopuedensimplementehablarenEspañol"), "PorqunopuedensimplementehablarenEspaol-fmd56a"},
	{listOf("TạisaohọkhôngthểchỉnóitiếngViệt"), "TisaohkhngthchnitingVit-kjcr8268qyxafd2f1b9g"},
	{listOf("3年B組金八先生"), "3B-ww4c5e180e575a65lsy2b"},
	{listOf("安室奈美恵-with-SUPER-MONKEYS"), "-with-SUPER-MONKEYS-pc58ag80a8qai00g7n9n"},
	{listOf("Hello-Another-Way-それぞれの場所"), "Hello-Another-Way--fc4qua05auwb3674vfr0b"},
	{listOf("ひとつ屋根の下2"), "2-u9tlzr9756bt3uc0v"},
	{listOf("MajiでKoiする5秒前"), "MajiKoi5-783gue6qz075azm5e"},
	{listOf("パフィーdeルンバ"), "de-jg4avhby1noc0d"},
	{listOf("そのスピードで"), "d9juau41awczczp"},
	{listOf("-> $1.00 <-"), "-> $1.00 <--"},
}

// nothing: texts of bytes below 80 that denote nothing.
var nothing = []string{
	"-", "-a", "-kva", "-bcherkva", "-0", "-!", // the only hyphen is the first byte
	"kv", "k", "9", "bcher-kv", "bcher-k", "a-9", "egbpdaj6bu4bxfgehfvw8", "dn32", "--k", "kva9", // cut off
	"a-!", "!", " ", "a-k!a", "bcher-kva!", "bcher-kva ", "kva\x00", "\x7F", "a-\x2C", "a-{", "a-@", "a-[", "a-`", "a-/", "a-:", "tda.", // what is no digit
	"99999999", "en32g", "dn33g", "a-i023p", "a-99999999", "bcher-9999999999", "bcher-999999999999999999999a", "99999999999999999999a", // too great
	"ib9b", "zy0c", "hb9bb", "a-qc4g", "a-qo7g", // no scalars
}

// rooms: below 1, 1, few, more than enough.
var rooms = []int{math.MinInt, -1, 0, 1, 2, 3, 5, 7, 1000, math.MaxInt}

// decoder is all that a decoder tells of itself.
type decoder struct {
	at   int
	fail api.Fail
	done bool
}

func decoderOf(d *puny.Decoder) decoder { return decoder{d.At(), d.Fail(), d.Done()} }

// encoder is all that an encoder tells of itself.
type encoder struct {
	at   int
	fail api.Fail
	done bool
	kept int
}

func encoderOf(e *puny.Encoder) encoder { return encoder{e.At(), e.Fail(), e.Done(), e.Kept()} }

// form, cut and wrong: what goes wrong, and where.
func form(at int) api.Fail  { return api.Fail{Err: api.ErrForm, At: at} }
func cut(at int) api.Fail   { return api.Fail{Err: api.ErrCut, At: at} }
func wrong(at int) api.Fail { return api.Fail{Err: api.ErrScalar, At: at} }

// read: what a whole text tells, and how it ends.
func read(s string) ([]uint32, api.Fail) {
	d := puny.NewDecoder()
	d.Feed(s, 1)
	d.End()
	_, l := d.Feed("", math.MaxInt)
	return l, d.Fail()
}

// write: what is made of a whole list, and how it ends.
func write(l []uint32) (string, api.Fail) {
	e := puny.NewEncoder()
	e.Feed(l, 0)
	e.End()
	_, s := e.Feed(nil, math.MaxInt)
	return s, e.Fail()
}

// reads: a text of bytes below 80 tells what the chapter says.
func reads(t *testing.T, s string) bool {
	t.Helper()
	want, is := meaning(s)
	how := api.Fail{}
	if !is {
		how = cut(len(s))
	}
	if l, f := read(s); !slices.Equal(l, want) || f != how {
		t.Fatalf("%q: %X, %v, not %X, %v", s, l, f, want, how)
	}
	return is
}

// writes: a list of scalars is written as the standard does it.
func writes(t *testing.T, l []uint32) {
	t.Helper()
	if s, f := write(l); s != spelling(l) || f != (api.Fail{}) {
		t.Fatalf("%X: %q, %v, not %q", l, s, f, spelling(l))
	}
}

// source is numbers without any order to be seen, the same in each run.
type source uint64

func (r *source) below(n int) int {
	*r = *r*6364136223846793005 + 1442695040888963407
	return int((uint64(*r) >> 33) % uint64(n))
}

// scalar: of any kind, the borders often.
func (r *source) scalar() uint32 {
	borders := []uint32{0, 0x2D, 0x7F, 0x80, 0xFF, 0x100, 0xD7FF, 0xE000, 0xFFFF, 0x10000, 0x10FFFE, 0x10FFFF}
	switch r.below(6) {
	case 0, 1:
		return uint32(r.below(0x80))
	case 2:
		return uint32(0x80 + r.below(0x80))
	case 3:
		return uint32(0x400 + r.below(8))
	case 4:
		return borders[r.below(len(borders))]
	}
	for {
		if c := uint32(r.below(0x110000)); isScalar(c) {
			return c
		}
	}
}

// list: so many scalars at most.
func (r *source) list(most int) []uint32 {
	l := make([]uint32, r.below(most+1))
	for i := range l {
		l[i] = r.scalar()
	}
	return l
}

// text: bytes below 80, most of them digits of both kinds of letters.
func (r *source) text(most int) string {
	s := make([]byte, r.below(most+1))
	for i := range s {
		switch r.below(12) {
		case 0:
			s[i] = "-ZA!"[r.below(4)]
		case 1:
			s[i] = row[r.below(len(row))]
		default:
			s[i] = "abcdABCDefgh"[r.below(12)]
		}
	}
	return string(s)
}

func TestP101New(t *testing.T) {
	d := puny.NewDecoder()
	if decoderOf(d) != (decoder{}) {
		t.Error(decoderOf(d))
	}
	if n, l := d.Feed("", 9); n != 0 || len(l) != 0 || decoderOf(d) != (decoder{}) {
		t.Error(n, l, decoderOf(d))
	}
	d.End()
	if decoderOf(d) != (decoder{done: true}) {
		t.Error("the empty text denotes no scalars:", decoderOf(d))
	}
}

func TestP101Known(t *testing.T) {
	for _, x := range known {
		d := puny.NewDecoder()
		if n, l := d.Feed(x.s, 1); n != len(x.s) || len(l) != 0 || decoderOf(d) != (decoder{at: n}) {
			t.Errorf("%q: %d, %X, %v", x.s, n, l, decoderOf(d))
		}
		d.End()
		if got := decoderOf(d); got != (decoder{at: len(x.s), done: len(x.l) == 0}) {
			t.Errorf("%q, and End: %v", x.s, got)
		}
		if n, l := d.Feed("", len(x.l)); n != 0 || !slices.Equal(l, x.l) || decoderOf(d) != (decoder{at: len(x.s), done: true}) {
			t.Errorf("%q, behind End: %d, %X, %v", x.s, n, l, decoderOf(d))
		}
	}
}

// Byte by byte, with whatever room, no scalar is told ahead of End.
func TestP101NothingIsToldAheadOfEnd(t *testing.T) {
	for _, x := range known {
		for _, room := range rooms[3:] {
			d := puny.NewDecoder()
			for i := range len(x.s) {
				if n, l := d.Feed(x.s[i:i+1], room); n != 1 || len(l) != 0 || decoderOf(d) != (decoder{at: i + 1}) {
					t.Fatalf("%q at %d, room %d: %d, %X, %v", x.s, i, room, n, l, decoderOf(d))
				}
				if n, l := d.Feed("", room); n != 0 || len(l) != 0 || decoderOf(d) != (decoder{at: i + 1}) {
					t.Fatalf("%q at %d, room %d, without bytes: %d, %X, %v", x.s, i, room, n, l, decoderOf(d))
				}
			}
		}
	}
}

// Behind End scalars are told, room of them at most, whatever bytes are handed
// in; none of these is eaten, or looked at.
func TestP101BehindEndByRoom(t *testing.T) {
	for _, x := range known {
		for _, room := range rooms {
			for _, more := range []string{"", "a", "-kva", "\x80", "a\xFFb"} {
				d := puny.NewDecoder()
				d.Feed(x.s, 1)
				d.End()
				told := 0
				for range len(x.l) + 2 {
					k := min(max(room, 0), len(x.l)-told)
					if n, l := d.Feed(more, room); n != 0 || !slices.Equal(l, x.l[told:told+k]) {
						t.Fatalf("%q, room %d, behind %d: %d, %X", x.s, room, told, n, l)
					}
					told += k
					if decoderOf(d) != (decoder{at: len(x.s), done: told == len(x.l)}) {
						t.Fatalf("%q, room %d, behind %d: %v", x.s, room, told, decoderOf(d))
					}
					d.End()
				}
			}
		}
	}
}

// Without room no byte is looked at, not even a wrong one.
func TestP101NoRoom(t *testing.T) {
	for _, s := range []string{"", "a", "bcher-kva", "\x80", "a\xFF", "-"} {
		for _, room := range rooms[:3] {
			d := puny.NewDecoder()
			d.Feed("x-", 1)
			if n, l := d.Feed(s, room); n != 0 || len(l) != 0 || decoderOf(d) != (decoder{at: 2}) {
				t.Errorf("%q, room %d: %d, %X, %v", s, room, n, l, decoderOf(d))
			}
			d.End()
			if _, l := d.Feed("", 9); !slices.Equal(l, []uint32{'x'}) || decoderOf(d) != (decoder{at: 2, done: true}) {
				t.Errorf("%q, room %d, and End: %X, %v", s, room, l, decoderOf(d))
			}
		}
	}
}

// Each byte below 80 is right behind any others: a hyphen behind them makes
// them all basic.
func TestP101BytesBelow80AreRight(t *testing.T) {
	for _, ahead := range append([]string{"", "-", "a-!", "99999999", "dn33g", "ib9b", "bcher-kva"}, nothing...) {
		for b := range 0x80 {
			s := ahead + string([]byte{byte(b)})
			d := puny.NewDecoder()
			if n, l := d.Feed(s, 9); n != len(s) || len(l) != 0 || decoderOf(d) != (decoder{at: n}) {
				t.Fatalf("%q: %d, %X, %v", s, n, l, decoderOf(d))
			}
			d.Feed("-", 1)
			d.End()
			if _, l := d.Feed("", math.MaxInt); !slices.Equal(l, listOf(s)) || d.Fail() != (api.Fail{}) {
				t.Fatalf("%q and a hyphen: %X, %v", s, l, d.Fail())
			}
		}
	}
}

// Each byte above 7F is wrong at whatever place, and nothing is told then: no
// scalar is complete ahead of End.
func TestP101BytesAbove7FAreWrong(t *testing.T) {
	for _, ahead := range []string{"", "a", "ab-", "bcher-kva", "-", "a-!", "dn33g"} {
		for b := 0x80; b < 0x100; b++ {
			s := ahead + string([]byte{byte(b)}) + "c-kva\x80"
			at := len(ahead)
			for _, room := range rooms[3:] {
				d := puny.NewDecoder()
				if n, l := d.Feed(s, room); n != at || len(l) != 0 || decoderOf(d) != (decoder{at, form(at), true}) {
					t.Fatalf("%q, room %d: %d, %X, %v", s, room, n, l, decoderOf(d))
				}
				stays(t, d, fmt.Sprintf("%q", s))
			}
			d := puny.NewDecoder()
			for i := range at {
				d.Feed(s[i:i+1], 1)
			}
			if n, l := d.Feed(s[at:], 1); n != 0 || len(l) != 0 || decoderOf(d) != (decoder{at, form(at), true}) {
				t.Fatalf("%q, byte by byte: %d, %X, %v", s, n, l, decoderOf(d))
			}
		}
	}
}

// stays: whatever is called, such a decoder is as it was, and tells nothing.
func stays(t *testing.T, d *puny.Decoder, how string) {
	t.Helper()
	was := decoderOf(d)
	for range 2 {
		for _, s := range []string{"", "a", "a-", "-kva", "\x80"} {
			for _, room := range rooms {
				if n, l := d.Feed(s, room); n != 0 || len(l) != 0 || decoderOf(d) != was {
					t.Fatalf("%s, then %q: %d, %X, %v", how, s, n, l, decoderOf(d))
				}
			}
		}
		d.End()
		if decoderOf(d) != was {
			t.Fatalf("%s, then End: %v, not %v", how, decoderOf(d), was)
		}
	}
}

func TestP101TextsThatDenoteNothing(t *testing.T) {
	for _, s := range nothing {
		if _, is := meaning(s); is {
			t.Errorf("%q denotes something", s)
		}
		d := puny.NewDecoder()
		if n, l := d.Feed(s, 1); n != len(s) || len(l) != 0 || decoderOf(d) != (decoder{at: n}) {
			t.Errorf("%q: %d, %X, %v", s, n, l, decoderOf(d))
		}
		d.End()
		if decoderOf(d) != (decoder{len(s), cut(len(s)), true}) {
			t.Errorf("%q, and End: %v", s, decoderOf(d))
		}
		stays(t, d, fmt.Sprintf("%q, ended", s))
	}
}

// A text may be parted by its last hyphen alone, and by none that is its first
// byte.
func TestP101Hyphens(t *testing.T) {
	for _, x := range []struct {
		s    string
		want string
		is   bool
	}{
		{"tda", "ü", true}, {"a-", "a", true}, {"-", "", false}, {"--", "-", true}, {"---", "--", true}, {"----", "---", true},
		{"a--", "a-", true}, {"-a-", "-a", true}, {"-a", "", false}, {"--a", "\u0080-", true}, {"-a-a", "\u0080-a", true}, {"a-a", "\u0080a", true},
		{"a-a-a", "\u0080a-a", true}, {"a-a-", "a-a", true}, {"kva-kva-", "kva-kva", true}, {"kva-!", "", false}, {"!-a", "\u0080!", true}, {"!-!-a", "\u0080!-!", true},
		{"bcher--kva", "", true}, {"-bcher-kva", "", true}, {"b-cher-kva", "", true}, {"bcher-k-va", "", true}, {"bcher-k-v", "", false},
	} {
		if is := reads(t, x.s); is != x.is {
			t.Errorf("%q: %v", x.s, is)
		}
		if l, _ := read(x.s); x.want != "" && !slices.Equal(l, listOf(x.want)) {
			t.Errorf("%q: %X, not %X", x.s, l, listOf(x.want))
		}
	}
}

// The first number leads to any scalar and to none else: the borders of
// scalars, and numbers that would be scalars if 32 or 64 bits of them counted.
func TestP101TheFirstNumber(t *testing.T) {
	to := []uint64{0x80, 0x81, 0xFF, 0x100, 0xD7FE, 0xD7FF, 0xD800, 0xD801, 0xDBFF, 0xDC00, 0xDFFE, 0xDFFF, 0xE000, 0xFFFF, 0x10000, 0x10FFFE, 0x10FFFF, 0x110000, 0x110001, 0x1FFFFF,
		1<<31 + 0x80, 1<<32 - 1, 1 << 32, 1<<32 + 0x41, 1<<32 + 0x80, 1<<32 + 0xE9, 1<<33 + 0xE9, 1<<40 + 0x100, 1<<48 + 0x100, 1<<56 + 0x100}
	for _, basic := range []string{"", "a", "ab", "-", "abcdefg"} {
		points := uint64(len(basic) + 1)
		ahead := basic
		if basic != "" {
			ahead += "-"
		}
		for _, c := range to {
			for place := range points {
				s := ahead + put((c-0x80)*points+place, 72)
				want := isScalar(uint32(c)) && c < 1<<32
				if is := reads(t, s); is != want {
					t.Fatalf("%q, which leads to %X: %v", s, c, is)
				}
				l, _ := read(s)
				if want && !slices.Equal(l, slices.Insert(listOf(basic), int(place), uint32(c))) {
					t.Fatalf("%q: %X", s, l)
				}
			}
		}
	}
}

// Numbers about 2^62 and 2^64, as the first one and as a later one.
func TestP101GreatNumbers(t *testing.T) {
	for _, n := range []uint64{1<<62 - 1, 1 << 62, 1<<62 + 1, 1<<63 - 1, 1 << 63, 1<<63 + 1, math.MaxUint64 - 0x80, math.MaxUint64} {
		for _, ahead := range []string{"", "a-", "-a-", strings.Repeat("x", 1000) + "-"} {
			if reads(t, ahead+put(n, 72)) {
				t.Errorf("%q and %d denotes something", ahead, n)
			}
			if reads(t, ahead+"a"+put(n, 0)) { // behind a 0 the bias is 0
				t.Errorf("%q, a number, and %d denotes something", ahead, n)
			}
		}
	}
	for _, s := range []string{strings.Repeat("9", 100), strings.Repeat("9", 100) + "a", strings.Repeat("z", 1000), "a-" + strings.Repeat("Z", 60) + "a", strings.Repeat("b", 60) + "a"} {
		reads(t, s)
	}
}

// A later number leads on from where the one ahead led to; behind the greatest
// scalar there are only places of it.
func TestP101LaterNumbers(t *testing.T) {
	for _, first := range []uint32{0x80, 0x100, 0xD7FF, 0xE000, 0x10FFFE, 0x10FFFF} {
		delta := uint64(first - 0x80)
		under := adapt(new(big.Int).SetUint64(delta), 1, true)
		ahead := put(delta, 72)
		for _, c := range []uint64{0x80, 0x100, 0xD7FF, 0xD800, 0xDFFF, 0xE000, 0x10FFFF, 0x110000, 1<<32 + 0x100} {
			for place := range uint64(2) {
				was := uint64(first)*2 + 1
				if c*2+place < was {
					continue
				}
				s := ahead + put(c*2+place-was, under)
				if is := reads(t, s); is != (c < 1<<32 && isScalar(uint32(c))) {
					t.Fatalf("%q, which leads from %X to %X: %v", s, first, c, is)
				}
			}
		}
	}
}

// Every text of up to six of some bytes, and of up to three of all digits.
func TestP101ShortTexts(t *testing.T) {
	seen := map[bool]int{}
	for _, x := range []struct {
		of   string
		most int
	}{{"abkzAK9-!", 6}, {row + "-", 3}} {
		all := []string{""}
		for from := 0; from < len(all); from++ {
			seen[reads(t, all[from])]++
			for i := range len(x.of) {
				if len(all[from]) < x.most {
					all = append(all, all[from]+x.of[i:i+1])
				}
			}
		}
	}
	if seen[true] < 10000 || seen[false] < 10000 {
		t.Error(seen)
	}
}

func TestP101MixedTexts(t *testing.T) {
	r := source(101)
	seen := map[bool]int{}
	for range 20000 {
		seen[reads(t, r.text(30))]++
	}
	if seen[true] < 1000 || seen[false] < 1000 {
		t.Error(seen)
	}
}

// Texts of lists, cut off at each place, or with a byte exchanged.
func TestP101TextsNearRightOnes(t *testing.T) {
	r := source(1010)
	for _, x := range known {
		for i := range len(x.s) {
			reads(t, x.s[:i])
			for _, b := range []byte("aZ9-! b") {
				reads(t, x.s[:i]+string(b)+x.s[i+1:])
			}
			reads(t, x.s[:i]+row[r.below(36):][:1]+x.s[i:])
		}
	}
}

// feedParts hands a text to a decoder in parts that end at the given places,
// with the rooms in turn, each part till it is eaten or has gone wrong; then it
// ends it, and takes all that is told.
func feedParts(t *testing.T, s string, ends []int, turn []int) ([]uint32, api.Fail) {
	bad := strings.IndexFunc(s, func(r rune) bool { return r >= 0x80 })
	if bad < 0 {
		bad = len(s)
	}
	d := puny.NewDecoder()
	at, calls := 0, 0
	for _, end := range append(ends, len(s)) {
		for more := true; more; calls++ {
			room := turn[calls%len(turn)]
			to := at
			if room > 0 {
				to = min(bad, end)
			}
			want := decoder{at: to}
			if room > 0 && end > bad || d.Fail() != (api.Fail{}) {
				want = decoder{bad, form(bad), true}
			}
			n, l := d.Feed(s[at:end], room)
			if n != to-at || len(l) != 0 || decoderOf(d) != want {
				t.Fatalf("%q from %d to %d, room %d: %d, %X, %v", s, at, end, room, n, l, decoderOf(d))
			}
			at = to
			more = at < end && d.Fail() == (api.Fail{})
		}
	}
	d.End()
	var all []uint32
	for range 3 * (len(s) + 1) {
		if d.Done() {
			break
		}
		room := turn[calls%len(turn)]
		calls++
		n, l := d.Feed(s, room)
		if n != 0 || len(l) > max(room, 0) {
			t.Fatalf("%q, behind End, room %d: %d, %X", s, room, n, l)
		}
		all = append(all, l...)
	}
	return all, d.Fail()
}

func TestP101PartsAndRooms(t *testing.T) {
	turns := [][]int{{math.MaxInt}, {1}, {2}, {0, 1}, {-1, 2, 1}, {1, 5, math.MinInt}}
	texts := []string{"", "a", "bcher-kva", "ab-", "--", "-kva", "a-!", "99999999", "a\x80", "\xFF", "bcher-kv\xC3", "b\x80cher-kva", "egbpdaj6bu4bxfgehfvwxn", "3B-ww4c5e180e575a65lsy2b"}
	for _, s := range texts {
		whole, how := read(s)
		for i := range len(s) + 1 {
			for j := i; j <= len(s); j++ {
				for _, turn := range turns {
					if l, f := feedParts(t, s, []int{i, j}, turn); !slices.Equal(l, whole) || f != how {
						t.Fatalf("%q, cut at %d and %d: %X, %v, not %X, %v", s, i, j, l, f, whole, how)
					}
				}
			}
		}
	}
}

func TestP101BehindTheLastScalar(t *testing.T) {
	for _, s := range []string{"", "a", "ab-", "bcher-kva", "dn32g"} {
		d := puny.NewDecoder()
		d.Feed(s, 9)
		d.End()
		d.Feed("", 9)
		if decoderOf(d) != (decoder{at: len(s), done: true}) {
			t.Errorf("%q: %v", s, decoderOf(d))
		}
		stays(t, d, fmt.Sprintf("%q, ended and told", s))
	}
}

// What one call told isn't touched by the next ones, nor they by what is done to it.
func TestP101WhatIsToldIsNewMemory(t *testing.T) {
	d := puny.NewDecoder()
	d.Feed("bcher-kva", 9)
	d.End()
	_, first := d.Feed("", 2)
	was := slices.Clone(first)
	_, second := d.Feed("", 2)
	if !slices.Equal(first, was) || !slices.Equal(second, []uint32{'c', 'h'}) {
		t.Error(first, second)
	}
	first[0] = 7
	_ = append(first, 8, 9)
	second[1] = 6
	_ = append(second[:0], 5, 5, 5, 5)
	if _, third := d.Feed("", 9); !slices.Equal(third, []uint32{'e', 'r'}) {
		t.Error(third)
	}
	if first[1] != 0xFC {
		t.Error(first)
	}
}

func TestP101WhatIsHandedInStays(t *testing.T) {
	whole := strings.Clone("bcher-KVA\x80bcher-KVA")
	was := strings.Clone(whole)
	for from := range len(whole) {
		for to := from; to <= len(whole); to++ {
			first, how := read(whole[from:to])
			if l, f := read(whole[from:to]); !slices.Equal(l, first) || f != how {
				t.Fatal(from, to, l, f)
			}
		}
	}
	if whole != was {
		t.Error(whole)
	}
}

func TestP101DecodersAreForThemselves(t *testing.T) {
	a, b, c := puny.NewDecoder(), puny.NewDecoder(), puny.NewDecoder()
	a.Feed("bcher", 9)
	b.Feed("3B-ww4c5e1", 9)
	c.Feed("ab", 9)
	a.Feed("-kva", 9)
	c.Feed("\x80", 9)
	b.Feed("80e575a65lsy2b", 9)
	a.End()
	if decoderOf(a) != (decoder{at: 9}) || decoderOf(b) != (decoder{at: 24}) || decoderOf(c) != (decoder{2, form(2), true}) {
		t.Error(decoderOf(a), decoderOf(b), decoderOf(c))
	}
	_, first := a.Feed("", 3)
	b.End()
	_, l := b.Feed("", 9)
	_, second := a.Feed("", 9)
	if !slices.Equal(l, listOf("3年B組金八先生")) || !slices.Equal(slices.Concat(first, second), listOf("bücher")) {
		t.Errorf("%X, %X, %X", l, first, second)
	}
}

func TestP102New(t *testing.T) {
	e := puny.NewEncoder()
	if encoderOf(e) != (encoder{}) {
		t.Error(encoderOf(e))
	}
	for _, l := range [][]uint32{nil, {}} {
		if n, s := e.Feed(l, 9); n != 0 || s != "" || encoderOf(e) != (encoder{}) {
			t.Error(n, s, encoderOf(e))
		}
	}
	e.End()
	if encoderOf(e) != (encoder{done: true}) {
		t.Error("no scalars make no bytes:", encoderOf(e))
	}
}

// Whatever room there is, all scalars are eaten, and no bytes are told or kept
// ahead of End.
func TestP102Known(t *testing.T) {
	for _, x := range known {
		for _, room := range rooms {
			e := puny.NewEncoder()
			if n, s := e.Feed(x.l, room); n != len(x.l) || s != "" || encoderOf(e) != (encoder{at: n}) {
				t.Fatalf("%X, room %d: %d, %q, %v", x.l, room, n, s, encoderOf(e))
			}
			e.End()
			if encoderOf(e) != (encoder{at: len(x.l), done: x.s == "", kept: len(x.s)}) {
				t.Fatalf("%X, and End: %v", x.l, encoderOf(e))
			}
			if n, s := e.Feed(nil, len(x.s)); n != 0 || s != x.s || encoderOf(e) != (encoder{at: len(x.l), done: true}) {
				t.Fatalf("%X, behind End: %d, %q, %v", x.l, n, s, encoderOf(e))
			}
		}
	}
}

// Scalar by scalar, with whatever room, nothing is told ahead of End.
func TestP102NothingIsToldAheadOfEnd(t *testing.T) {
	for _, x := range known {
		for _, room := range rooms {
			e := puny.NewEncoder()
			for i := range x.l {
				if n, s := e.Feed(x.l[i:i+1], room); n != 1 || s != "" || encoderOf(e) != (encoder{at: i + 1}) {
					t.Fatalf("%X at %d, room %d: %d, %q, %v", x.l, i, room, n, s, encoderOf(e))
				}
				if n, s := e.Feed(nil, room); n != 0 || s != "" || encoderOf(e) != (encoder{at: i + 1}) {
					t.Fatalf("%X at %d, room %d, without scalars: %d, %q, %v", x.l, i, room, n, s, encoderOf(e))
				}
			}
		}
	}
}

// Behind End bytes are told, room of them at most, whatever numbers are handed
// in; none of these is eaten, or looked at. One End more changes nothing.
func TestP102BehindEndByRoom(t *testing.T) {
	for _, x := range known {
		for _, room := range rooms {
			for _, more := range [][]uint32{nil, {0x41}, {0xD800}, {0xFC, 0x110000}} {
				e := puny.NewEncoder()
				e.Feed(x.l, 1)
				e.End()
				told := 0
				for range len(x.s) + 2 {
					k := min(max(room, 0), len(x.s)-told)
					if n, s := e.Feed(more, room); n != 0 || s != x.s[told:told+k] {
						t.Fatalf("%X, room %d, behind %d: %d, %q", x.l, room, told, n, s)
					}
					told += k
					if encoderOf(e) != (encoder{at: len(x.l), done: told == len(x.s), kept: len(x.s) - told}) {
						t.Fatalf("%X, room %d, behind %d: %v", x.l, room, told, encoderOf(e))
					}
					e.End()
				}
			}
		}
	}
}

// Numbers that are no scalars, at whatever place and with whatever room: what
// stands ahead is eaten, and no bytes are told of it, then or later.
func TestP102NoScalars(t *testing.T) {
	l := []uint32{0x110000, 0x110001, 0x1FFFFF, 0x200000, 0x7FFFFFFF, 0x80000000, 0x80000041, 0xFFFFFF80, math.MaxUint32}
	for c := uint32(0xD800); c <= 0xDFFF; c++ {
		l = append(l, c)
	}
	for _, c := range l {
		for _, ahead := range [][]uint32{{}, {0x41}, {0x10FFFF, 0xD7FF, 0xE000}, listOf("bücher")} {
			for _, room := range rooms {
				e := puny.NewEncoder()
				at := len(ahead)
				want := encoder{at, wrong(at), true, 0}
				n, s := e.Feed(append(slices.Clone(ahead), c, 0x42, 0xD800), room)
				if n != at || s != "" || encoderOf(e) != want {
					t.Fatalf("%X behind %X: %d, %q, %v", c, ahead, n, s, encoderOf(e))
				}
				e.End()
				if n, s := e.Feed(nil, 99); n != 0 || s != "" || encoderOf(e) != want {
					t.Fatalf("%X behind %X, and End: %d, %q, %v", c, ahead, n, s, encoderOf(e))
				}
			}
		}
	}
}

func TestP102BehindAFailure(t *testing.T) {
	e := puny.NewEncoder()
	e.Feed([]uint32{0x20AC}, 9)
	e.Feed([]uint32{0x41, 0x110000}, 9)
	for range 2 {
		for _, l := range [][]uint32{nil, {0x41}, {0xD800}, {0x110000, 0x41}} {
			for _, room := range rooms {
				if n, s := e.Feed(l, room); n != 0 || s != "" || encoderOf(e) != (encoder{2, wrong(2), true, 0}) {
					t.Errorf("%X: %d, %q, %v", l, n, s, encoderOf(e))
				}
			}
		}
		e.End()
	}
}

// Every list of up to five of some scalars, the borders among them: basic ones
// alone, others alone, both, in any order, and more than once.
func TestP102ShortLists(t *testing.T) {
	of := []uint32{0x2D, 0x7F, 0x80, 0xFC, 0xD7FF, 0xE000, 0x10FFFF}
	all := [][]uint32{nil}
	for from := 0; from < len(all); from++ {
		writes(t, all[from])
		for _, c := range of {
			if len(all[from]) < 5 {
				all = append(all, append(slices.Clone(all[from]), c))
			}
		}
	}
}

// shapes: longer lists, in rising, falling and mixed order.
func shapes() [][]uint32 {
	r := source(1020)
	all := [][]uint32{
		slices.Repeat([]uint32{0xFC}, 300), slices.Repeat([]uint32{0x10FFFF}, 300), slices.Repeat([]uint32{0x2D}, 300), slices.Repeat([]uint32{0xFC, 0x61}, 150),
		slices.Repeat([]uint32{0xD7FF, 0xE000}, 100), slices.Repeat([]uint32{0xE000, 0xD7FF, 0x7F, 0x80}, 50),
	}
	var rising []uint32
	for c := uint32(0x70); c < 0x190; c++ {
		rising = append(rising, c)
	}
	far := []uint32{0, 0x7F, 0x80, 0x3FF, 0xD7FE, 0xD7FF, 0xE000, 0xE001, 0xFFFF, 0x10000, 0xFFFFF, 0x10FFFE, 0x10FFFF}
	for _, l := range [][]uint32{rising, rising[16:], far, slices.Concat(rising, rising), slices.Concat(far, rising)} {
		falling := slices.Clone(l)
		slices.Reverse(falling)
		mixed := slices.Clone(l)
		for i := range mixed {
			j := r.below(i + 1)
			mixed[i], mixed[j] = mixed[j], mixed[i]
		}
		all = append(all, l, falling, mixed, slices.Concat(l, falling), slices.Concat(falling, l, mixed))
	}
	return all
}

func TestP102LongerLists(t *testing.T) {
	for _, l := range shapes() {
		writes(t, l)
	}
}

func TestP102MixedLists(t *testing.T) {
	r := source(102)
	for range 20000 {
		writes(t, r.list(25))
	}
}

// feedScalars hands a list to an encoder in parts that end at the given places,
// with the rooms in turn; then it ends it, and takes all that is told.
func feedScalars(t *testing.T, l []uint32, ends []int, turn []int) (string, api.Fail) {
	bad := slices.IndexFunc(l, func(c uint32) bool { return !isScalar(c) })
	if bad < 0 {
		bad = len(l)
	}
	e := puny.NewEncoder()
	at, calls := 0, 0
	for _, end := range append(ends, len(l)) {
		to := min(bad, end)
		want := encoder{at: to}
		if end > bad {
			want = encoder{bad, wrong(bad), true, 0}
		}
		n, s := e.Feed(l[at:end], turn[calls%len(turn)])
		if n != to-at || s != "" || encoderOf(e) != want {
			t.Fatalf("%X from %d to %d: %d, %q, %v", l, at, end, n, s, encoderOf(e))
		}
		at = to
		calls++
	}
	e.End()
	kept, all := e.Kept(), ""
	for range 3 * (kept + 1) {
		if e.Done() {
			break
		}
		room := turn[calls%len(turn)]
		calls++
		n, s := e.Feed(l, room)
		all += s
		if n != 0 || len(s) > max(room, 0) || e.Kept() != kept-len(all) {
			t.Fatalf("%X, behind End, room %d: %d, %q, %v", l, room, n, s, encoderOf(e))
		}
	}
	return all, e.Fail()
}

func TestP102PartsAndRooms(t *testing.T) {
	turns := [][]int{{math.MaxInt}, {1}, {2}, {3}, {0, 1}, {-1, 2, 1}, {1, 7, math.MinInt}}
	lists := [][]uint32{
		{}, {0x41}, listOf("bücher"), listOf("ü"), listOf("ab-"), listOf("3年B組金八先生"), {0x10FFFF, 0x10FFFF, 0}, {0xE000, 0xD7FF, 0xE000},
		{0xD800}, {0x41, 0xDFFF, 0x42}, {0x20AC, 0x20AC, 0x110000}, {0x10FFFF, math.MaxUint32, 0x41, 0xD800},
	}
	for _, l := range lists {
		whole, how := write(l)
		for i := range len(l) + 1 {
			for j := i; j <= len(l); j++ {
				for _, turn := range turns {
					if s, f := feedScalars(t, l, []int{i, j}, turn); s != whole || f != how {
						t.Fatalf("%X, cut at %d and %d: %q, %v, not %q, %v", l, i, j, s, f, whole, how)
					}
				}
			}
		}
	}
}

func TestP102WhatIsHandedInStays(t *testing.T) {
	full := []uint32{0x20AC, 0x41, 0xFC, 0x10FFFF, 0x2D, 7, 8, 0xD800}
	was := slices.Clone(full)
	for i := range len(full) {
		for j := i; j < len(full); j++ {
			e := puny.NewEncoder()
			e.Feed(full[:i], 9)
			e.Feed(full[i:j], 9)
			e.End()
			e.Feed(full[j:], 9)
			if !slices.Equal(full, was) {
				t.Fatalf("%d, %d: %X", i, j, full)
			}
		}
	}
	l := []uint32{0x62, 0xFC, 0x63}
	e := puny.NewEncoder()
	e.Feed(l, 9)
	l[0], l[1], l[2] = 0xE9, 0x41, 0xD800
	e.Feed(listOf("her"), 9)
	e.End()
	if _, s := e.Feed(nil, 99); s != "bcher-kva" {
		t.Errorf("%q: what was eaten hangs on the list still", s)
	}
}

func TestP102EncodersAreForThemselves(t *testing.T) {
	a, b, c := puny.NewEncoder(), puny.NewEncoder(), puny.NewEncoder()
	a.Feed(listOf("büc"), 9)
	b.Feed(listOf("3年B組"), 9)
	c.Feed(listOf("ab"), 9)
	a.Feed(listOf("her"), 9)
	c.Feed([]uint32{0xD800}, 9)
	b.Feed(listOf("金八先生"), 9)
	a.End()
	if encoderOf(a) != (encoder{at: 6, kept: 9}) || encoderOf(b) != (encoder{at: 8}) || encoderOf(c) != (encoder{2, wrong(2), true, 0}) {
		t.Error(encoderOf(a), encoderOf(b), encoderOf(c))
	}
	_, first := a.Feed(nil, 4)
	b.End()
	_, s := b.Feed(nil, 99)
	_, second := a.Feed(nil, 99)
	if s != "3B-ww4c5e180e575a65lsy2b" || first != "bche" || second != "r-kva" {
		t.Error(s, first, second)
	}
}

// carry writes a list and reads it again, by so many scalars or bytes and so
// much room a call. Each call gets on by a scalar or a byte, and none of these
// lists has more than nine bytes a scalar: more calls than there are of both are
// none of a machine that ends.
func carry(l []uint32, part, room int) (string, []uint32) {
	e, d := puny.NewEncoder(), puny.NewDecoder()
	var text strings.Builder
	most := 10*len(l) + 10
	for i := 0; i < most && !e.Done(); i++ {
		n, s := e.Feed(l[:min(part, len(l))], room)
		text.WriteString(s)
		if l = l[n:]; len(l) == 0 {
			e.End()
		}
	}
	s := text.String()
	var back []uint32
	for i := 0; i < most && !d.Done(); i++ {
		n, c := d.Feed(s[:min(part, len(s))], room)
		back = append(back, c...)
		if s = s[n:]; len(s) == 0 {
			d.End()
		}
	}
	return text.String(), back
}

func TestP103ThereAndBack(t *testing.T) {
	r := source(103)
	lists := shapes()
	for _, x := range known {
		lists = append(lists, x.l)
	}
	for range 2000 {
		lists = append(lists, r.list(60))
	}
	for _, l := range lists {
		text, _ := write(l)
		for _, x := range []struct{ part, room int }{{math.MaxInt, math.MaxInt}, {1, 1}, {3, 2}, {2, 5}, {1000, 7}} {
			s, back := carry(l, x.part, x.room)
			if s != text || !slices.Equal(back, l) {
				t.Fatalf("%X, parts of %d, room %d: %q, and %X", l, x.part, x.room, s, back)
			}
		}
	}
}

// Every scalar by itself, and between basic ones.
func TestP103EveryScalar(t *testing.T) {
	for c := uint32(0); c <= 0x10FFFF; c++ {
		if !isScalar(c) {
			continue
		}
		l := []uint32{c}
		if c%3 == 0 {
			l = []uint32{0x61, c, 0x2D}
		}
		s, f := write(l)
		if f != (api.Fail{}) {
			t.Fatalf("%X: %v", l, f)
		}
		if back, f := read(s); !slices.Equal(back, l) || f != (api.Fail{}) {
			t.Fatalf("%X: %q, and %X, %v", l, s, back, f)
		}
	}
}

// Long lists of all scalars: their times must not grow with the square of their
// lengths.
func TestP103LongLists(t *testing.T) {
	var rising []uint32
	for c := uint32(0); c <= 0x10FFFF; c++ {
		if isScalar(c) {
			rising = append(rising, c)
		}
	}
	falling := slices.Clone(rising)
	slices.Reverse(falling)
	mixed := slices.Clone(rising)
	r := source(1030)
	for i := range mixed {
		j := r.below(i + 1)
		mixed[i], mixed[j] = mixed[j], mixed[i]
	}
	again := slices.Repeat([]uint32{0x10FFFF, 0x61, 0xFC}, 200000)
	for _, l := range [][]uint32{rising, falling, mixed, again} {
		s, f := write(l)
		if f != (api.Fail{}) {
			t.Fatal(f)
		}
		if back, f := read(s); !slices.Equal(back, l) || f != (api.Fail{}) {
			t.Errorf("%d scalars, %d are read: %v", len(l), len(back), f)
		}
	}
}

// again: a text that denotes something is written as it was, but for great
// letters among its digits; so are texts with other kinds of letters there.
func again(t *testing.T, s string) bool {
	t.Helper()
	l, f := read(s)
	if f != (api.Fail{}) {
		return false
	}
	if w, f := write(l); w != lowered(s) || f != (api.Fail{}) {
		t.Fatalf("%q: %X, and %q, %v", s, l, w, f)
	}
	_, digits := split(s)
	ahead := s[:len(s)-len(digits)]
	for _, other := range []string{ahead + strings.ToUpper(digits), ahead + strings.ToLower(digits)} {
		if m, f := read(other); !slices.Equal(m, l) || f != (api.Fail{}) {
			t.Fatalf("%q: %X, %v, not %X as %q", other, m, f, l, s)
		}
	}
	return true
}

func TestP103WrittenAgain(t *testing.T) {
	r := source(1031)
	times := 0
	count := func(s string) {
		if again(t, s) {
			times++
		}
	}
	for _, x := range known {
		count(x.s)
	}
	for range 50000 {
		count(r.text(30))
	}
	all := []string{""}
	for from := 0; from < len(all); from++ {
		count(all[from])
		for _, b := range "abkKZ9-~" {
			if len(all[from]) < 5 {
				all = append(all, all[from]+string(b))
			}
		}
	}
	if times < 20000 {
		t.Error(times, "texts denote something")
	}
}

// No two texts denote one list, but for great letters among their digits.
func TestP103OneText(t *testing.T) {
	seen := map[string]string{}
	all := []string{""}
	for from := 0; from < len(all); from++ {
		s := all[from]
		if l, f := read(s); f == (api.Fail{}) {
			key := fmt.Sprint(l)
			if other, ok := seen[key]; ok {
				t.Fatalf("%q and %q: %X", other, s, l)
			}
			seen[key] = s
		}
		for _, b := range "abcky09-" {
			if len(s) < 5 {
				all = append(all, s+string(b))
			}
		}
	}
}

func TestP103GreatAndSmallLetters(t *testing.T) {
	for _, x := range []struct {
		s    string
		want string
	}{
		{"bcher-KVA", "bücher"}, {"bcher-kVa", "bücher"}, {"bcher-Kva", "bücher"}, {"BCHER-kva", "BüCHER"}, {"BcheR-KVA", "BücheR"},
		{"TDA", "ü"}, {"A", "\u0080"}, {"A-", "A"}, {"a-A", "\u0080a"}, {"A-a", "\u0080A"}, {"DN32G", "\U0010FFFF"},
		{"b1abfaaepdrnnbgefbaDotcwatmq2g4l", "почемужеонинеговорятпорусски"},
	} {
		if l, f := read(x.s); !slices.Equal(l, listOf(x.want)) || f != (api.Fail{}) {
			t.Errorf("%q: %X, %v", x.s, l, f)
		}
		again(t, x.s)
	}
	r := source(1032)
	for range 5000 {
		l := r.list(20)
		s, _ := write(l)
		_, digits := split(s)
		mixed := []byte(digits)
		for i := range mixed {
			if r.below(2) == 0 {
				mixed[i] = strings.ToUpper(digits)[i]
			}
		}
		other := s[:len(s)-len(digits)] + string(mixed)
		if back, f := read(other); !slices.Equal(back, l) || f != (api.Fail{}) {
			t.Fatalf("%q: %X, %v, not %X", other, back, f, l)
		}
	}
}

// A text of bytes below 80, and a hyphen behind, denotes these bytes. (Of the
// empty text that hyphen is the first byte.)
func TestP103BasicTexts(t *testing.T) {
	basic := func(s string) {
		t.Helper()
		l, f := read(s + "-")
		if !slices.Equal(l, listOf(s)) || f != (api.Fail{}) {
			t.Fatalf("%q and a hyphen: %X, %v", s, l, f)
		}
		if w, f := write(l); w != s+"-" || f != (api.Fail{}) {
			t.Fatalf("%X: %q, %v", l, w, f)
		}
	}
	all := make([]byte, 0x80)
	for a := range 0x80 {
		all[a] = byte(a)
		basic(string([]byte{byte(a)}))
		for b := range 0x80 {
			basic(string([]byte{byte(a), byte(b)}))
		}
	}
	basic(string(all))
	basic(strings.Repeat(string(all), 1000))
	basic(strings.Repeat("-", 1000))
	r := source(1033)
	for range 5000 {
		if s := r.text(30); s != "" {
			basic(s)
		}
	}
	for _, s := range nothing {
		basic(s)
	}
	if l, f := read("-"); len(l) != 0 || f != cut(1) {
		t.Errorf("a hyphen alone: %X, %v", l, f)
	}
}

func TestExamples(t *testing.T) {
	for _, x := range []struct {
		l []uint32
		s string
	}{
		{[]uint32{0x62, 0xFC, 0x63, 0x68, 0x65, 0x72}, "bcher-kva"},
		{[]uint32{0x61, 0x62}, "ab-"},
		{[]uint32{0x2D}, "--"},
		{nil, ""},
	} {
		if s, f := write(x.l); s != x.s || f != (api.Fail{}) {
			t.Errorf("%X: %q, %v", x.l, s, f)
		}
		if l, f := read(x.s); !slices.Equal(l, x.l) || f != (api.Fail{}) {
			t.Errorf("%q: %X, %v", x.s, l, f)
		}
	}
	if l, f := read("-kva"); len(l) != 0 || f != cut(4) {
		t.Errorf("%X, %v", l, f)
	}
	if l, f := read("a-!"); len(l) != 0 || f != cut(3) {
		t.Errorf("%X, %v", l, f)
	}
}
