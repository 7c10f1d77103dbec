package verify_test

import (
	"fmt"
	"math"
	"slices"
	"strings"
	"testing"

	"pilcrow/api"
	"pilcrow/crate"
	"pilcrow/samples"
	"pilcrow/verify"
)

// words: all errors' words, by the chapter's words.
func words() []string {
	return strings.Split("ok arg scalar form cut long sum magic count usage nil codec version total more", " ")
}

// noErrors are numbers of no errors.
func noErrors() []api.Errno {
	return []api.Errno{
		-1, 15, 16, -2, -14, -15, 30, 64, 99, 100, 255, 256, 257, 1 << 16, 1<<32 + 1, 1 << 62,
		math.MinInt32, math.MaxInt32, math.MinInt, math.MinInt + 1, math.MinInt + 6, math.MaxInt - 1, math.MaxInt,
	}
}

// number is what blocks' numbers and places are tried with, as it is written.
type number struct {
	n       int
	written string
}

func numbers() []number {
	return []number{
		{0, "0"}, {1, "1"}, {9, "9"}, {10, "10"}, {11, "11"}, {99, "99"}, {100, "100"}, {65536, "65536"}, {1048575, "1048575"}, {1 << 24, "16777216"},
		{-1, "-1"}, {-9, "-9"}, {-10, "-10"}, {-100, "-100"}, {math.MaxInt32, "2147483647"}, {math.MinInt32, "-2147483648"},
		{math.MaxInt, "9223372036854775807"}, {math.MinInt, "-9223372036854775808"},
	}
}

// writes: Text answers this.
func writes(t *testing.T, want string, l ...api.Finding) {
	t.Helper()
	if got := verify.Text(l...); got != want {
		t.Errorf("Text(%s), %d findings: %.100q, %d bytes, not %.100q, %d bytes", short(l), len(l), got, len(got), want, len(want))
	}
}

func TestP222Word(t *testing.T) {
	l := words()
	if len(l) != 15 {
		t.Fatalf("%d words", len(l))
	}
	for e, want := range l {
		if got := verify.Word(api.Errno(e)); got != want {
			t.Errorf("Word(%d): %q, not %q", e, got, want)
		}
	}
	for _, e := range noErrors() {
		if got := verify.Word(e); got != "" {
			t.Errorf("Word(%d): %q", e, got)
		}
	}
	for e, want := range map[api.Errno]string{
		api.OK: "ok", api.ErrArg: "arg", api.ErrScalar: "scalar", api.ErrForm: "form", api.ErrCut: "cut", api.ErrLong: "long", api.ErrSum: "sum",
		api.ErrMagic: "magic", api.ErrCount: "count", api.ErrUsage: "usage", api.ErrNil: "nil", api.ErrCodec: "codec", api.ErrVersion: "version",
		api.ErrTotal: "total", api.ErrMore: "more",
	} {
		if got := verify.Word(e); got != want {
			t.Errorf("Word(%d): %q, not %q", e, got, want)
		}
	}
}

func TestP222TextByHand(t *testing.T) {
	writes(t, "")
	writes(t, "", []api.Finding{}...)
	writes(t, "0 ok\n", api.Finding{})
	writes(t, "0 sum 0\n", api.Finding{Err: api.ErrSum})
	writes(t, "12 cut 345\n", api.Finding{Block: 12, Err: api.ErrCut, At: 345})
	writes(t, "7 ok\n", api.Finding{Block: 7, At: 5})
	writes(t, "-3 ok\n", api.Finding{Block: -3, At: -5})
	writes(t, "-3 form -10\n", api.Finding{Block: -3, Err: api.ErrForm, At: -10})
	writes(t, "4  0\n", api.Finding{Block: 4, Err: 15})
	writes(t, "-4  -1\n", api.Finding{Block: -4, Err: -1, At: -1})
	writes(t, "2 form 1\n2 form 1\n0 ok\n1 ok\n5  6\n0 more 9\n",
		api.Finding{Block: 2, Err: api.ErrForm, At: 1}, api.Finding{Block: 2, Err: api.ErrForm, At: 1}, api.Finding{},
		api.Finding{Block: 1, At: 3}, api.Finding{Block: 5, Err: 77, At: 6}, api.Finding{Err: api.ErrMore, At: 9})
}

// Each error, and some that are none, with each number and place.
func TestP222TextOfAll(t *testing.T) {
	errors := noErrors()
	for e := range words() {
		errors = append(errors, api.Errno(e))
	}
	var all []api.Finding
	var lines []string
	for _, e := range errors {
		word := ""
		if e >= 0 && int(e) < len(words()) {
			word = words()[e]
		}
		for _, block := range numbers() {
			for _, at := range numbers() {
				line := block.written + " " + word + " " + at.written + "\n"
				if e == api.OK {
					line = block.written + " ok\n"
				}
				f := api.Finding{Block: block.n, Err: e, At: at.n}
				writes(t, line, f)
				all, lines = append(all, f), append(lines, line)
			}
		}
	}
	writes(t, strings.Join(lines, ""), all...)
}

func TestP222TextOfMany(t *testing.T) {
	l := make([]api.Finding, 200000)
	var want strings.Builder
	for i := range l {
		l[i] = api.Finding{Block: i, Err: api.Errno(i % 15), At: 3 * i}
		if i%15 == 0 {
			fmt.Fprintf(&want, "%d ok\n", i)
		} else {
			fmt.Fprintf(&want, "%d %s %d\n", i, words()[i%15], 3*i)
		}
	}
	writes(t, want.String(), l...)
}

func TestHandedInStays(t *testing.T) {
	want := []api.Finding{{Block: 2, Err: api.ErrSum, At: 3}, {Block: 1, At: 7}, {Block: 0, Err: 99, At: -1}}
	list, all := samples.Roomy(want, api.Finding{Block: 8, Err: 8, At: 8})
	kept := slices.Clone(all)
	writes(t, "2 sum 3\n1 ok\n0  -1\n", list...)
	if !slices.Equal(all, kept) {
		t.Errorf("%v, not %v", all, kept)
	}
}

func TestExamples(t *testing.T) {
	writes(t, "0 ok\n1 form 7\n", api.Finding{Block: 0}, api.Finding{Block: 1, Err: api.ErrForm, At: 7})
	s := printed(t, api.Utf8, 8, of(8, "ABCDEFGH"), of(8, "ABCDEFG\xFF"))
	l, f := verify.Check(s)
	if f != right {
		t.Errorf("%v", f)
	}
	writes(t, "0 ok\n1 form 7\n", l...)
}

// The examples of the whole, as far as they are of crates.
func TestExamplesOfTheWhole(t *testing.T) {
	s := packed(t, api.Utf8, 1, 0x41)
	finds(t, s, right)
	turned := strings.Replace(s, "\x41", "\x43", 1)
	finds(t, turned, fail(api.ErrSum, 0))
	l, _ := verify.Check(turned)
	writes(t, "0 sum 0\n", l...)
	if _, f := crate.Unpack(turned); f != fail(api.ErrSum, 14) {
		t.Errorf("Unpack: %v", f)
	}
	for _, x := range []struct {
		c    int
		s    string
		want api.Fail
	}{
		{api.Utf8, "\xE0\x80", fail(api.ErrForm, 1)}, {api.Utf16LE, "\x00\xDC", fail(api.ErrForm, 1)}, {api.Bocu, "\x4F", fail(api.ErrForm, 0)},
		{api.Scsu, "\x18\x00", fail(api.ErrForm, 1)}, {api.Puny, "a-!", fail(api.ErrCut, 3)}, {api.Utf8, "\xC3", fail(api.ErrCut, 1)},
		{api.Utf8, "\x41", right}, {api.Ebcdic, "\xC1", right}, {api.Utf32LE, "\xFF\xFE\x00\x00", right}, {api.Plain, "\x0E\xFE\xFF", right},
	} {
		finds(t, printed(t, x.c, 1, of(1, x.s)), x.want)
	}
}
