package pump_test

import (
	"fmt"
	"math"
	"slices"
	"strings"
	"testing"

	"pilcrow/api"
	"pilcrow/codec"
	"pilcrow/pump"
	"pilcrow/samples"
)

// right is the Fail of what is right.
var right = api.Fail{}

func wrong(at int) api.Fail { return api.Fail{Err: api.ErrScalar, At: at} }
func form(at int) api.Fail  { return api.Fail{Err: api.ErrForm, At: at} }
func cut(at int) api.Fail   { return api.Fail{Err: api.ErrCut, At: at} }

// shown: the beginnings of the cuts' lists, for a message.
func shown(c pump.Cuts) string {
	return fmt.Sprintf("parts %.60s, rooms %.60s", fmt.Sprint(c.Parts), fmt.Sprint(c.Rooms))
}

// reads: Read answers these scalars, this Fail, and so many steps.
func reads(t *testing.T, c int, s string, cuts pump.Cuts, fail api.Fail, steps int, want ...uint32) {
	t.Helper()
	if l, f, n := pump.Read(c, s, cuts); !slices.Equal(l, want) || f != fail || n != steps {
		t.Errorf("Read(%d, %.40X), %d bytes, %s: %s %v %d, not %s %v %d", c, s, len(s), shown(cuts), samples.Hex(l), f, n, samples.Hex(want), fail, steps)
	}
}

// writes: Write answers these bytes, this Fail, and so many steps.
func writes(t *testing.T, c int, l []uint32, cuts pump.Cuts, fail api.Fail, steps int, want string) {
	t.Helper()
	if s, f, n := pump.Write(c, l, cuts); s != want || f != fail || n != steps {
		t.Errorf("Write(%d, %s), %d numbers, %s: %.40X %v %d, not %.40X %v %d", c, samples.Hex(l), len(l), shown(cuts), s, f, n, want, fail, steps)
	}
}

// roomOf: the k-th step's room, by the chapter's words.
func roomOf(cuts pump.Cuts, k int) int {
	switch {
	case k >= len(cuts.Rooms):
		return 64
	case cuts.Rooms[k] < 1:
		return 1
	}
	return cuts.Rooms[k]
}

// offered: how many of those that are left the k-th step offers, by the
// chapter's words.
func offered(cuts pump.Cuts, k, left int) int {
	switch {
	case k >= len(cuts.Parts), cuts.Parts[k] > left:
		return left
	case cuts.Parts[k] < 0:
		return 0
	}
	return cuts.Parts[k]
}

// readSteps feeds the codec's own machine call by call.
func readSteps(c int, s string, cuts pump.Cuts) (l []uint32, f api.Fail, steps int) {
	d, _ := codec.NewDecoder(c)
	for s != "" && d.Fail() == right {
		eaten, told := d.Feed(s[:offered(cuts, steps, len(s))], roomOf(cuts, steps))
		s = s[eaten:]
		l = append(l, told...)
		steps++
	}
	d.End()
	for !d.Done() {
		_, told := d.Feed("", roomOf(cuts, steps))
		l = append(l, told...)
		steps++
	}
	return l, d.Fail(), steps
}

// writeSteps feeds the codec's own machine call by call.
func writeSteps(c int, l []uint32, cuts pump.Cuts) (s string, f api.Fail, steps int) {
	e, _ := codec.NewEncoder(c)
	for len(l) > 0 && e.Fail() == right {
		eaten, told := e.Feed(l[:offered(cuts, steps, len(l))], roomOf(cuts, steps))
		l = l[eaten:]
		s += told
		steps++
	}
	e.End()
	for !e.Done() {
		_, told := e.Feed(nil, roomOf(cuts, steps))
		s += told
		steps++
	}
	return s, e.Fail(), steps
}

// isRead: Read answers what the codec's own machine tells that is fed so, and
// what Decode answers, in no more steps than the bound.
func isRead(t *testing.T, c int, s string, cuts pump.Cuts) {
	t.Helper()
	l, f, steps := readSteps(c, s, cuts)
	reads(t, c, s, cuts, f, steps, l...)
	l, f, steps = pump.Read(c, s, cuts)
	if want, fail := codec.Decode(c, s); !slices.Equal(l, want) || f != fail {
		t.Errorf("Read(%d, %.40X), %s: %s %v; Decode: %s %v", c, s, shown(cuts), samples.Hex(l), f, samples.Hex(want), fail)
	}
	if most := len(cuts.Parts) + len(cuts.Rooms) + len(s) + len(l) + 2; steps > most {
		t.Errorf("Read(%d, %.40X), %s: %d steps, more than %d", c, s, shown(cuts), steps, most)
	}
}

// isWritten is the same of Write.
func isWritten(t *testing.T, c int, l []uint32, cuts pump.Cuts) {
	t.Helper()
	s, f, steps := writeSteps(c, l, cuts)
	writes(t, c, l, cuts, f, steps, s)
	s, f, steps = pump.Write(c, l, cuts)
	if want, fail := codec.Encode(c, l...); s != want || f != fail {
		t.Errorf("Write(%d, %s), %s: %.40X %v; Encode: %.40X %v", c, samples.Hex(l), shown(cuts), s, f, want, fail)
	}
	if most := len(cuts.Parts) + len(cuts.Rooms) + len(s) + len(l) + 2; steps > most {
		t.Errorf("Write(%d, %s), %s: %d steps, more than %d", c, samples.Hex(l), shown(cuts), steps, most)
	}
}

// numbers: parts, or rooms, some of them wrong ones.
func numbers(r *samples.Source, n, below int) []int {
	l := make([]int, n)
	for i := range l {
		l[i] = r.Below(below) - 2
	}
	return l
}

// lists: nothing, one scalar of each size, two, many, and more than a thousand.
func lists() [][]uint32 {
	l := [][]uint32{nil, {}}
	for _, a := range samples.Sizes() {
		l = append(l, []uint32{a}, []uint32{a, a}, []uint32{0x416, a, 0x436})
	}
	r := samples.From(19)
	for n := 3; n < 140; n += 8 {
		l = append(l, r.List(n))
	}
	for n := 62; n < 68; n++ { // about as many as the room behind the end
		l = append(l, slices.Repeat([]uint32{0x41}, n))
	}
	return append(l, slices.Repeat([]uint32{0x41, 0x4E00}, 600), r.List(1100))
}

// ones: so many times this number.
func ones(n, number int) []int { return slices.Repeat([]int{number}, n) }

// allCuts: cuts of all kinds for so much to turn.
func allCuts(n int) []pump.Cuts {
	var l []pump.Cuts
	r := samples.From(uint32(n))
	lists := [][]int{
		nil, {}, {0}, {1}, {-1}, {2, 0, 3}, {0, 0, 0, 0}, {math.MinInt}, {math.MaxInt}, {math.MinInt, math.MaxInt, math.MinInt, 1},
		{5, -1, 0, math.MinInt32, 63, 64, 65}, ones(n/2, 1), ones(n+3, 1), ones(6*n+3, 1), ones(n+5, 0), numbers(r, 9, 7), numbers(r, n+2, 5),
	}
	for i, a := range lists {
		l = append(l, pump.Cuts{Parts: a}, pump.Cuts{Rooms: a}, pump.Cuts{Parts: a, Rooms: a})
		l = append(l, pump.Cuts{Parts: a, Rooms: lists[(i+5)%len(lists)]}, pump.Cuts{Parts: lists[(i+4)%len(lists)], Rooms: a})
	}
	return l
}

// fewCuts: some of them, for long lists.
func fewCuts(n int) []pump.Cuts {
	r := samples.From(uint32(n))
	return []pump.Cuts{
		{}, {Parts: ones(n, 1)}, {Rooms: ones(n, 1)}, {Parts: ones(9*n, 1), Rooms: ones(9*n, 1)}, {Parts: ones(7, 0), Rooms: ones(7, 0)},
		{Parts: numbers(r, 50, 90), Rooms: numbers(r, 70, 90)}, {Parts: numbers(r, 9*n, 9), Rooms: numbers(r, n, 9)},
	}
}

// cutsFor: as many as can be gone through.
func cutsFor(n int) []pump.Cuts {
	if n > 70 {
		return fewCuts(n)
	}
	return allCuts(n)
}

func TestExamples(t *testing.T) {
	reads(t, api.Utf8, "\xE2\x82\xAC", pump.Cuts{Parts: []int{1, 1, 1}}, right, 3, 0x20AC)
}

// The examples of the whole, as far as they are of bytes and scalars, by any
// cuts.
func TestExamplesOfTheWhole(t *testing.T) {
	both := func(c int, s string, l ...uint32) {
		for _, cuts := range allCuts(len(l)) {
			if got, f, _ := pump.Write(c, l, cuts); got != s || f != right {
				t.Errorf("Write(%d, %s), %s: %.40X %v", c, samples.Hex(l), shown(cuts), got, f)
			}
			if got, f, _ := pump.Read(c, s, cuts); !slices.Equal(got, l) || f != right {
				t.Errorf("Read(%d, %.40X), %s: %s %v", c, s, shown(cuts), samples.Hex(got), f)
			}
		}
	}
	both(api.Utf8, "\x41\xC3\xA9\xE2\x82\xAC", 0x41, 0xE9, 0x20AC)
	both(api.Utf16LE, "\x41\x00\xE9\x00\xAC\x20", 0x41, 0xE9, 0x20AC)
	both(api.Ebcdic, "\xC1", 0x41)
	for c, s := range []string{
		api.Utf8: "\xEF\xBB\xBF", api.Utf16BE: "\xFE\xFF", api.Utf16LE: "\xFF\xFE", api.Utf32BE: "\x00\x00\xFE\xFF", api.Utf32LE: "\xFF\xFE\x00\x00",
		api.Ebcdic: "\xDD\x73\x66\x73", api.Bocu: "\xFB\xEE\x28", api.Scsu: "\x0E\xFE\xFF", api.Plain: "\x0E\xFE\xFF",
	} {
		if s != "" {
			both(c, s, 0xFEFF)
		}
	}
	both(api.Puny, "bcher-kva", 0x62, 0xFC, 0x63, 0x68, 0x65, 0x72)
	both(api.Scsu, "\x12\x9C\xBE\xC1", 0x41C, 0x43E, 0x441)
	both(api.Plain, "\x0F\x04\x1C\x04\x3E\x04\x41", 0x41C, 0x43E, 0x441)
	both(api.Bocu, "\xD3\xCA\x86\x0A\x91", 0x416, 0x436, 0x0A, 0x41)
	fails := func(c int, s string, fail api.Fail) {
		for _, cuts := range allCuts(len(s)) {
			if got, f, _ := pump.Read(c, s, cuts); len(got) > 0 || f != fail {
				t.Errorf("Read(%d, %.40X), %s: %s %v", c, s, shown(cuts), samples.Hex(got), f)
			}
		}
	}
	fails(api.Utf8, "\xE0\x80", form(1))
	fails(api.Utf16LE, "\x00\xDC", form(1))
	fails(api.Bocu, "\x4F", form(0))
	fails(api.Scsu, "\x18\x00", form(1))
	fails(api.Puny, "a-!", cut(3))
}

func TestP191NoSuchCodec(t *testing.T) {
	no := api.Fail{Err: api.ErrCodec}
	for _, c := range samples.NoCodecs() {
		for _, cuts := range allCuts(3) {
			for _, s := range []string{"", "A", "abc", "\xFF", strings.Repeat("A", 200)} {
				reads(t, c, s, cuts, no, 0)
			}
			for _, l := range [][]uint32{nil, {}, {0x41}, {0xD800}, {0x41, 0x42, 0x110000}, slices.Repeat([]uint32{0x41}, 200)} {
				writes(t, c, l, cuts, no, 0, "")
			}
		}
	}
}

// Nothing is eaten in no steps, whatever the cuts.
func TestP191Nothing(t *testing.T) {
	for c := 1; c <= api.Codecs; c++ {
		for _, n := range []int{0, 1, 10} {
			for _, cuts := range allCuts(n) {
				reads(t, c, "", cuts, right, 0)
				writes(t, c, nil, cuts, right, 0, "")
				writes(t, c, []uint32{}, cuts, right, 0, "")
			}
		}
	}
}

// Steps that were counted by hand.
func TestP191StepsOfRead(t *testing.T) {
	least, most := math.MinInt, math.MaxInt
	for _, w := range []struct {
		s            string
		parts, rooms []int
		steps        int
	}{
		{"a", nil, nil, 1}, {"a", []int{}, []int{}, 1}, {"abc", nil, nil, 1}, {"abc", []int{3}, nil, 1}, {"abc", []int{4}, nil, 1},
		{"abc", []int{most}, nil, 1}, {"abc", []int{most, 1}, []int{most}, 1}, {"abc", []int{1}, nil, 2}, {"abc", []int{1, 1}, nil, 3},
		{"abc", []int{1, 1, 1}, nil, 3}, {"abc", []int{1, 1, 1, 1}, nil, 3}, {"abc", []int{2, 2}, nil, 2}, {"abc", []int{0}, nil, 2},
		{"abc", []int{0, 0, 0}, nil, 4}, {"abc", []int{-1, least}, nil, 3}, {"abc", []int{1, 0, 1, -1}, nil, 5}, {"abc", []int{0, 3, 0}, nil, 2},
		{"abc", nil, []int{1}, 2}, {"abc", nil, []int{1, 1}, 3}, {"abc", nil, []int{1, 1, 1, 1}, 3}, {"abc", nil, []int{0}, 2},
		{"abc", nil, []int{-1, 0}, 3}, {"abc", nil, []int{least, least, least, least}, 3}, {"abc", nil, []int{2, 0}, 2}, {"abc", nil, []int{2}, 2},
		{"abc", []int{2}, []int{1}, 2}, {"abc", []int{2, 1}, []int{1}, 3}, {"abc", []int{2, 1, 0}, []int{1, 1}, 4}, {"abc", []int{1, 2}, []int{1, 1}, 3},
		{"\xC3\xA9", []int{1}, []int{1}, 2}, {"\xC3\xA9", nil, []int{1}, 1}, {"\xC3\xA9\xC3\xA9", []int{1, 2}, []int{1, 1}, 3},
		{strings.Repeat("a", 64), nil, nil, 1}, {strings.Repeat("a", 65), nil, nil, 2}, {strings.Repeat("a", 64), []int{most}, nil, 1},
		{strings.Repeat("a", 128), nil, nil, 2}, {strings.Repeat("a", 129), nil, nil, 3}, {strings.Repeat("a", 129), nil, []int{1}, 3},
		{strings.Repeat("a", 129), nil, []int{65}, 2}, {strings.Repeat("a", 130), nil, []int{65}, 3}, {strings.Repeat("a", 1000), nil, []int{most}, 1},
		{strings.Repeat("a", 1000), nil, nil, 16}, {strings.Repeat("a", 1000), ones(1000, 1), nil, 1000}, {strings.Repeat("a", 1000), []int{999}, []int{999}, 2},
		{strings.Repeat("a", 1000), nil, ones(1000, 1), 1000}, {strings.Repeat("a", 1000), []int{0, 1000}, []int{999, 999}, 3},
	} {
		var want []uint32
		for _, r := range w.s {
			want = append(want, uint32(r))
		}
		reads(t, api.Utf8, w.s, pump.Cuts{Parts: w.parts, Rooms: w.rooms}, right, w.steps, want...)
	}
}

func TestP191StepsOfWrite(t *testing.T) {
	least, most := math.MinInt, math.MaxInt
	many := slices.Repeat([]uint32{0x61}, 1000)
	for _, w := range []struct {
		l            []uint32
		parts, rooms []int
		steps        int
	}{
		{many[:1], nil, nil, 1}, {many[:1], []int{}, []int{}, 1}, {many[:3], nil, nil, 1}, {many[:3], []int{3}, nil, 1}, {many[:3], []int{most}, nil, 1},
		{many[:3], []int{1}, nil, 2}, {many[:3], []int{1, 1, 1, 1}, nil, 3}, {many[:3], []int{0, 0, 0}, nil, 4}, {many[:3], []int{-1, least}, nil, 3},
		{many[:3], []int{1, 0, 1, -1}, nil, 5}, {many[:3], nil, []int{1}, 2}, {many[:3], nil, []int{1, 1, 1, 1}, 3}, {many[:3], nil, []int{0, -1, least}, 3},
		{many[:3], nil, []int{2}, 2}, {many[:3], []int{2, 1}, []int{1}, 2}, {many[:3], []int{2, 0, 1}, []int{1}, 3},
		// One is eaten beyond the room, and kept.
		{many[:64], nil, nil, 1}, {many[:65], nil, nil, 2}, {many[:128], nil, nil, 2}, {many[:129], nil, nil, 3}, {many[:129], nil, []int{65}, 2},
		{many, nil, nil, 16}, {many, nil, []int{most}, 1}, {many, ones(1000, 1), nil, 1000}, {many, nil, ones(1000, 1), 1000}, {many, []int{0, most}, []int{1, 999}, 3},
		// Behind the end nothing is offered, and the rooms go on.
		{[]uint32{0x1F600}, nil, []int{1}, 2}, {[]uint32{0x1F600}, nil, []int{1, 1}, 3}, {[]uint32{0x1F600}, nil, []int{1, 1, 1, 1}, 4},
		{[]uint32{0x1F600}, nil, []int{least, 0, -1, 1, 1}, 4}, {[]uint32{0x1F600}, nil, []int{3, 1}, 2}, {[]uint32{0x1F600}, nil, []int{4, 1}, 1},
		{[]uint32{0x1F600}, []int{0, 0}, []int{1, 1, 1}, 4}, {[]uint32{0x1F600}, []int{0, 1}, []int{5, 1, 2}, 4},
	} {
		want := ""
		for _, a := range w.l {
			want += string(rune(a))
		}
		writes(t, api.Utf8, w.l, pump.Cuts{Parts: w.parts, Rooms: w.rooms}, right, w.steps, want)
	}
}

// Punycode is told behind the end alone, by steps of their own.
func TestP191StepsBehindTheEnd(t *testing.T) {
	l := []uint32{0x62, 0xFC, 0x63, 0x68, 0x65, 0x72}
	for _, w := range []struct {
		parts, rooms    []int
		reads, writings int
	}{
		{nil, nil, 2, 2}, {[]int{1}, nil, 3, 3}, {[]int{0, 0, 3}, nil, 5, 5}, {nil, []int{1, 2, 3}, 4, 4}, {nil, []int{1, 5}, 3, 3}, {nil, []int{1, 6}, 2, 3},
		{nil, []int{7, 0, -1, 1}, 5, 5}, {nil, []int{100, 9}, 2, 2}, {ones(10, 1), nil, 10, 7}, {ones(10, 1), ones(30, 1), 15, 15},
		{nil, ones(30, 1), 7, 10}, {nil, ones(5, 1), 6, 6}, {[]int{math.MinInt, math.MaxInt}, []int{math.MaxInt, math.MinInt, 4}, 4, 4},
	} {
		cuts := pump.Cuts{Parts: w.parts, Rooms: w.rooms}
		reads(t, api.Puny, "bcher-kva", cuts, right, w.reads, l...)
		writes(t, api.Puny, l, cuts, right, w.writings, "bcher-kva")
	}
}

// Where it goes wrong no step is behind that, but those that tell what waits.
func TestP191StepsOfWhatIsWrong(t *testing.T) {
	for _, w := range []struct {
		parts, rooms []int
		steps        int
	}{
		{nil, nil, 1}, {[]int{3}, nil, 2}, {[]int{4}, nil, 1}, {[]int{3, 0, 0}, nil, 4}, {ones(9, 1), nil, 4}, {nil, []int{3}, 2}, {nil, []int{4}, 1},
		{nil, ones(9, 1), 4}, {[]int{0, 2}, []int{5, 1}, 3}, {[]int{-1, 9, 9, 9}, []int{9, 1, 1, 1}, 5},
	} {
		reads(t, api.Utf8, "abc\xFFde", pump.Cuts{Parts: w.parts, Rooms: w.rooms}, form(3), w.steps, 0x61, 0x62, 0x63)
	}
	reads(t, api.Utf8, "abc\xE2\x82", pump.Cuts{}, cut(5), 1, 0x61, 0x62, 0x63)
	reads(t, api.Utf8, "abc\xE2\x82", pump.Cuts{Parts: ones(9, 1)}, cut(5), 5, 0x61, 0x62, 0x63)
	reads(t, api.Utf8, "abc\xE2\x82", pump.Cuts{Rooms: ones(9, 1)}, cut(5), 4, 0x61, 0x62, 0x63)
	l := []uint32{0x41, 0xD800, 0x42}
	for _, w := range []struct {
		parts, rooms []int
		steps        int
	}{
		{nil, nil, 1}, {[]int{1}, nil, 2}, {nil, []int{1}, 2}, {nil, ones(9, 1), 4}, {nil, []int{2, 1}, 3}, {nil, []int{4}, 1}, {nil, []int{3, 9}, 2},
		{[]int{1, 0, 0}, nil, 4}, {ones(9, 1), ones(9, 1), 4}, {[]int{1, 0, 0, 0, 0, 0}, ones(9, 1), 7},
	} {
		writes(t, api.Utf32BE, l, pump.Cuts{Parts: w.parts, Rooms: w.rooms}, wrong(1), w.steps, "\x00\x00\x00\x41")
	}
	// What hangs on the scalar behind it is made as it goes wrong, and told then.
	l = []uint32{0x4E00, 0x110000, 0x42}
	writes(t, api.Scsu, l, pump.Cuts{}, wrong(1), 1, "\x0E\x4E\x00")
	writes(t, api.Scsu, l, pump.Cuts{Rooms: []int{2}}, wrong(1), 2, "\x0E\x4E\x00")
	writes(t, api.Scsu, l, pump.Cuts{Rooms: ones(9, 1)}, wrong(1), 3, "\x0E\x4E\x00")
	writes(t, api.Scsu, l, pump.Cuts{Parts: []int{1, 0}, Rooms: ones(9, 0)}, wrong(1), 5, "\x0E\x4E\x00")
}

func TestP191ReadStepByStep(t *testing.T) {
	for c := 1; c <= api.Codecs; c++ {
		for _, l := range lists() {
			s, _ := codec.Encode(c, l...)
			for _, cuts := range cutsFor(len(s)) {
				isRead(t, c, s, cuts)
			}
		}
	}
}

func TestP191WriteStepByStep(t *testing.T) {
	for c := 1; c <= api.Codecs; c++ {
		for _, l := range lists() {
			for _, cuts := range cutsFor(len(l)) {
				isWritten(t, c, l, cuts)
			}
		}
	}
}

// broken: a text that goes wrong at a place, and one that is cut off.
type broken struct {
	bad  string
	at   int
	half string
}

// breaks: of each codec, behind nothing, or behind a line's end, by the
// chapters' words.
func breaks() []broken {
	return []broken{
		api.Utf8:    {"\xE0\x80", 1, "\xF0\x9F\x98"},
		api.Utf16BE: {"\xDC\x00", 0, "\xD8\x3D\xDE"},
		api.Utf16LE: {"\x00\xDC", 1, "\x3D\xD8"},
		api.Utf32BE: {"\x00\x11\x00\x00", 1, "\x00\x01"},
		api.Utf32LE: {"\x00\x00\x11\x00", 2, "\x41\x00\x00"},
		api.Ebcdic:  {"\xDD\x73\xC1", 2, "\xDD\x73\x66"},
		api.Puny:    {"\x80", 0, "-kv"},
		api.Bocu:    {"\xD3\x20", 1, "\xFB\xEE"},
		api.Scsu:    {"\x18\x00", 1, "\x0E\x20"},
		api.Plain:   {"\xF0\xDC", 1, "\xD8\x3D\xDE"}, // what was written goes on in the Unicode mode
	}
}

// aheads: what stands ahead of what is wrong: nothing, little and much.
func aheads() [][]uint32 {
	line := []uint32{0x416, 0x20AC, 0x41, 0x0A}
	return [][]uint32{nil, line, slices.Repeat(line, 20), slices.Repeat(line, 300)}
}

func TestP191BrokenBytes(t *testing.T) {
	for c := 1; c <= api.Codecs; c++ {
		for _, ahead := range aheads() {
			b := breaks()[c]
			if c == api.Plain && len(ahead) == 0 {
				b = breaks()[api.Scsu]
			}
			s, _ := codec.Encode(c, ahead...)
			told := ahead
			if c == api.Puny {
				told = nil // all is told behind an end that went well
			}
			for _, cuts := range cutsFor(len(s)) {
				for _, behind := range []string{"", "A", "\xFF\x80", s} {
					isRead(t, c, s+b.bad+behind, cuts)
					if l, f, _ := pump.Read(c, s+b.bad+behind, cuts); !slices.Equal(l, told) || f != form(len(s)+b.at) {
						t.Errorf("Read(%d, %.40X), %s: %s %v", c, s+b.bad+behind, shown(cuts), samples.Hex(l), f)
					}
				}
				isRead(t, c, s+b.half, cuts)
				if l, f, _ := pump.Read(c, s+b.half, cuts); c != api.Puny && (!slices.Equal(l, told) || f != cut(len(s)+len(b.half))) {
					t.Errorf("Read(%d, %.40X), %s: %s %v", c, s+b.half, shown(cuts), samples.Hex(l), f)
				}
			}
		}
	}
	for _, cuts := range allCuts(9) {
		for _, s := range []string{"a-!", "bcher-kv", "-kv", strings.Repeat("a", 500) + "-kv"} {
			if l, f, _ := pump.Read(api.Puny, s, cuts); len(l) > 0 || f != cut(len(s)) {
				t.Errorf("Read(%d, %.40q), %s: %s %v", api.Puny, s, shown(cuts), samples.Hex(l), f)
			}
		}
	}
}

// Of any bytes, too.
func TestP191AnyBytes(t *testing.T) {
	r := samples.From(7)
	for n := range 200 {
		b := make([]byte, n%40)
		for i := range b {
			b[i] = byte(r.Below(256))
			if r.Below(2) == 0 {
				b[i] &= 0x7F
			}
		}
		cuts := pump.Cuts{Parts: numbers(r, r.Below(30), 6), Rooms: numbers(r, r.Below(30), 6)}
		for c := 1; c <= api.Codecs; c++ {
			isRead(t, c, string(b), cuts)
			isRead(t, c, string(b), pump.Cuts{})
		}
	}
}

func TestP191NoScalars(t *testing.T) {
	for c := 1; c <= api.Codecs; c++ {
		for i, ahead := range aheads() {
			told, _ := codec.Encode(c, ahead...)
			if c == api.Puny {
				told = "" // all is told behind an end that went well
			}
			bad := []uint32{0xD800, 0xDFFF, 0x110000, 0xFFFFFFFF}[i]
			for _, behind := range [][]uint32{nil, {0x41}, {bad, 0x41}, ahead} {
				l := slices.Concat(ahead, []uint32{bad}, behind)
				for _, cuts := range cutsFor(len(l)) {
					isWritten(t, c, l, cuts)
					if s, f, _ := pump.Write(c, l, cuts); s != told || f != wrong(len(ahead)) {
						t.Errorf("Write(%d, %s), %s: %.40X %v", c, samples.Hex(l), shown(cuts), s, f)
					}
				}
			}
		}
	}
}

// Many steps that do nothing, and as many behind them.
func TestP192ManyCuts(t *testing.T) {
	r := samples.From(192)
	for c := 1; c <= api.Codecs; c++ {
		for _, n := range []int{0, 1, 2, 70} {
			l := r.List(n)
			s, _ := codec.Encode(c, l...)
			for _, cuts := range []pump.Cuts{
				{Parts: ones(3000, 0)}, {Rooms: ones(3000, 0)}, {Parts: ones(3000, -1), Rooms: ones(4000, math.MinInt)},
				{Parts: ones(3000, math.MaxInt), Rooms: ones(3000, math.MaxInt)}, {Parts: ones(1, 0), Rooms: ones(3000, 1)},
			} {
				isRead(t, c, s, cuts)
				isWritten(t, c, l, cuts)
			}
		}
	}
}

func TestP193ThereAndBack(t *testing.T) {
	for c := 1; c <= api.Codecs; c++ {
		for _, l := range lists() {
			there := cutsFor(len(l))
			for i, cuts := range there {
				s, f, _ := pump.Write(c, l, cuts)
				if f != right {
					t.Errorf("Write(%d, %s), %s: %v", c, samples.Hex(l), shown(cuts), f)
				}
				back := there[(i*5+3)%len(there)]
				if got, f, _ := pump.Read(c, s, back); !slices.Equal(got, l) || f != right {
					t.Errorf("%d, %s, there by %s, back by %s: %s %v", c, samples.Hex(l), shown(cuts), shown(back), samples.Hex(got), f)
				}
			}
		}
	}
}

// Much is read and written as it was, without a cut.
func TestP193Much(t *testing.T) {
	l := slices.Repeat([]uint32{0x41, 0x20AC, 0x1F600, 0x0A}, 1<<16)
	for c := 1; c <= api.Codecs; c++ {
		if c == api.Puny { // each of its places is counted from all that stand ahead
			continue
		}
		s, f, _ := pump.Write(c, l, pump.Cuts{})
		if want, _ := codec.Encode(c, l...); s != want || f != right {
			t.Errorf("%d: much isn't written: %v", c, f)
		}
		if got, f, _ := pump.Read(c, s, pump.Cuts{}); !slices.Equal(got, l) || f != right {
			t.Errorf("%d: much isn't read as it was: %v", c, f)
		}
	}
}

func TestWhatIsHandedInStays(t *testing.T) {
	for c := 1; c <= api.Codecs; c++ {
		for _, l := range append(lists()[:20], []uint32{0x41, 0xD800, 0x42}, slices.Repeat([]uint32{0x416}, 300)) {
			for _, cuts := range cutsFor(len(l)) {
				list, all := samples.Roomy(l, 0xDEAD)
				parts, allParts := samples.Roomy(cuts.Parts, 77)
				rooms, allRooms := samples.Roomy(cuts.Rooms, 77)
				was, wasParts, wasRooms := slices.Clone(all), slices.Clone(allParts), slices.Clone(allRooms)
				s, _, _ := pump.Write(c, list, pump.Cuts{Parts: parts, Rooms: rooms})
				pump.Read(c, s, pump.Cuts{Parts: parts, Rooms: rooms})
				if !slices.Equal(all, was) || !slices.Equal(allParts, wasParts) || !slices.Equal(allRooms, wasRooms) {
					t.Errorf("%d, %s, %s: what was handed in isn't what it was", c, samples.Hex(l), shown(cuts))
				}
			}
		}
	}
}

func TestAnswersAreNewMemory(t *testing.T) {
	for c := 1; c <= api.Codecs; c++ {
		for _, l := range lists() {
			s, _ := codec.Encode(c, l...)
			for _, cuts := range fewCuts(len(l)) {
				one, _, _ := pump.Read(c, s, cuts)
				other, _, _ := pump.Read(c, s, cuts)
				samples.Spoil(one, 0xDEAD)
				if !slices.Equal(other, l) {
					t.Errorf("Read(%d, %.40X), %s: two answers share memory", c, s, shown(cuts))
				}
				isRead(t, c, s, cuts)
			}
		}
	}
}

// What was handed in may be written over behind a call: its answer stays.
func TestAnswersStay(t *testing.T) {
	l := []uint32{0x416, 0x436, 0x1F600, 0x41, 0x4E00}
	for c := 1; c <= api.Codecs; c++ {
		want, _ := codec.Encode(c, l...)
		list := slices.Clone(l)
		s, _, _ := pump.Write(c, list, pump.Cuts{Rooms: []int{1, 1}})
		samples.Spoil(list, 0xDEAD)
		if s != want {
			t.Errorf("%d: %.40X, not %.40X", c, s, want)
		}
	}
}
