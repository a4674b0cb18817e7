package utf

import (
	"bytes"
	"math"
	"slices"
	"strings"
	"testing"
	"unicode/utf8"
)

const lastCodePoint = 0x10FFFF

// badStrings are not valid, each for another reason.
var badStrings = []string{
	"\x80", "\xbf", "\xc3", "\xc3a", "\xc3\xc3", "\xe2\x82", "\xe2\x82a", "\xe2a\x82", "\xf0\x9f\x98", "\xf0\x9f\x98a",
	"\xc0\x80", "\xc1\xbf", "\xe0\x80\x80", "\xe0\x9f\xbf", "\xf0\x80\x80\x80", "\xf0\x8f\xbf\xbf",
	"\xed\xa0\x80", "\xed\xbf\xbf", "\xed\xa0\xbd\xed\xb8\x80",
	"\xf4\x90\x80\x80", "\xf7\xbf\xbf\xbf", "\xf8\x88\x80\x80\x80", "\xfc\x84\x80\x80\x80\x80", "\xfe", "\xff",
}

var goodStrings = []string{
	"", "a", "\x00", "\x7f", "aéb", "é", "€", "x€y", "\U0001F600", "a\u0301", "\uFEFF", "\uFFFD", "\uFFFF",
	"\u0080\u07FF\u0800\uD7FF\uE000\U00010000\U0010FFFF", "line\nfeed",
}

var badCodePoints = []int{
	-1, -0x80, math.MinInt, 0xD800, 0xDABC, 0xDFFF, lastCodePoint + 1, 1 << 21, 1 << 32, 1<<32 + 'a', math.MaxInt,
}

func wantCodePoint(r int) bool {
	return r >= 0 && r <= lastCodePoint && utf8.ValidRune(rune(r))
}

func TestP1_1DecodeEdges(t *testing.T) {
	for _, x := range []struct {
		s       string
		at      int
		r, size int
	}{
		{"a", 0, 'a', 1}, {"\x00", 0, 0, 1}, {"\x7f", 0, 0x7F, 1}, {"\xc2\x80", 0, 0x80, 2}, {"é", 0, 0xE9, 2},
		{"\xdf\xbf", 0, 0x7FF, 2}, {"\xe0\xa0\x80", 0, 0x800, 3}, {"\xed\x9f\xbf", 0, 0xD7FF, 3}, {"\xee\x80\x80", 0, 0xE000, 3},
		{"\xef\xbf\xbd", 0, 0xFFFD, 3}, {"\xef\xbf\xbf", 0, 0xFFFF, 3}, {"\xf0\x90\x80\x80", 0, 0x10000, 4},
		{"\xf4\x8f\xbf\xbf", 0, lastCodePoint, 4}, {"x€", 1, 0x20AC, 3}, {"€x", 3, 'x', 1}, {"\xffa\xff", 1, 'a', 1},
		{"é\xff", 0, 0xE9, 2},
	} {
		if r, size, ok := Decode(x.s, x.at); r != x.r || size != x.size || !ok {
			t.Errorf("Decode(%q, %d) = %#x, %d, %v", x.s, x.at, r, size, ok)
		}
	}
}

func TestP1_1DecodeNothing(t *testing.T) {
	expectNothing := func(s string, at int) {
		t.Helper()
		if r, size, ok := Decode(s, at); r != 0 || size != 0 || ok {
			t.Errorf("Decode(%q, %d) = %#x, %d, %v", s, at, r, size, ok)
		}
	}
	for _, s := range badStrings {
		expectNothing(s, 0)
		expectNothing("ab"+s, 2)
		expectNothing(s+"a", 0)
	}
	for _, at := range []int{-1, math.MinInt, 3, 4, math.MaxInt} {
		expectNothing("abc", at)
		expectNothing("", at)
	}
	expectNothing("", 0)
	for at := 1; at < 4; at++ {
		expectNothing("\U0001F600", at)
	}
}

// The standard library is an independent statement of which bytes encode which code point.
func TestP1_1DecodeAllBeginnings(t *testing.T) {
	further := []byte{0x00, 0x41, 0x7F, 0x80, 0x8F, 0x90, 0x9F, 0xA0, 0xBF, 0xC0, 0xC2, 0xFF}
	for pair := range 1 << 16 {
		for _, third := range further {
			for _, fourth := range further {
				s := string([]byte{byte(pair >> 8), byte(pair), third, fourth})
				want, size := utf8.DecodeRuneInString(s)
				good := want != utf8.RuneError || size == 3
				if !good {
					want, size = 0, 0
				}
				if r, n, ok := Decode(s, 0); r != int(want) || n != size || ok != good {
					t.Fatalf("Decode(%q, 0) = %#x, %d, %v", s, r, n, ok)
				}
			}
		}
	}
}

func TestP1_1AppendAllCodePoints(t *testing.T) {
	for r := -3; r <= lastCodePoint+3; r++ {
		b, ok := Append([]byte("x"), r)
		if !wantCodePoint(r) {
			if b != nil || ok {
				t.Fatalf("Append(%#x) = %q, %v", r, b, ok)
			}
			continue
		}
		if want := "x" + string(rune(r)); string(b) != want || !ok {
			t.Fatalf("Append(%#x) = %q, %v", r, b, ok)
		}
		if got, size, ok := Decode(string(b), 1); got != r || size != len(b)-1 || !ok {
			t.Fatalf("Decode(%q, 1) = %#x, %d, %v", b, got, size, ok)
		}
	}
}

func TestP1_1AppendNothing(t *testing.T) {
	for _, r := range badCodePoints {
		for _, b := range [][]byte{nil, {}, []byte("abc")} {
			if got, ok := Append(b, r); len(got) > 0 || ok {
				t.Errorf("Append(%q, %#x) = %q, %v", b, r, got, ok)
			}
		}
	}
}

func TestP1_1AppendArgument(t *testing.T) {
	for _, b := range [][]byte{nil, {}} {
		if got, ok := Append(b, 0xE9); string(got) != "é" || !ok {
			t.Errorf("Append to nothing = %q, %v", got, ok)
		}
	}
	if got, ok := Append([]byte("\xff"), 'a'); string(got) != "\xffa" || !ok {
		t.Errorf("Append to bytes that are not valid = %q, %v", got, ok)
	}
}

func TestP1_1AppendNewMemory(t *testing.T) {
	for _, r := range []int{'a', 0xE9, 0x20AC, 0x1F600, 0xD800} {
		whole := []byte("abcdefghijkl")
		got, _ := Append(whole[:2], r)
		if string(whole) != "abcdefghijkl" {
			t.Fatalf("Append(%#x) writes to its argument: %q", r, whole)
		}
		got = got[:cap(got)]
		for i := range got {
			got[i] = 0xFF
		}
		if string(whole) != "abcdefghijkl" {
			t.Fatalf("Append(%#x) shares memory with its argument: %q", r, whole)
		}
	}
	b := []byte("ab")
	first, _ := Append(b, 'c')
	second, _ := Append(b, 'd')
	if string(first) != "abc" || string(second) != "abd" {
		t.Error("two results share memory", first, second)
	}
}

func TestP1_2GoodStrings(t *testing.T) {
	for _, s := range goodStrings {
		var want []int
		for _, r := range s {
			want = append(want, int(r))
		}
		if !Valid(s) {
			t.Errorf("Valid(%q) is false", s)
		}
		if n, ok := Count(s); n != len(want) || !ok {
			t.Errorf("Count(%q) = %d, %v", s, n, ok)
		}
		runes, ok := Runes(s)
		if !slices.Equal(runes, want) || !ok {
			t.Errorf("Runes(%q) = %#x, %v", s, runes, ok)
		}
		if back, ok := FromRunes(runes); back != s || !ok {
			t.Errorf("FromRunes(%#x) = %q, %v", runes, back, ok)
		}
	}
}

func TestP1_2BadStrings(t *testing.T) {
	for _, bad := range badStrings {
		for _, s := range []string{bad, "aé" + bad, bad + "aé", "€" + bad + "€"} {
			if Valid(s) {
				t.Errorf("Valid(%q) is true", s)
			}
			if n, ok := Count(s); n != 0 || ok {
				t.Errorf("Count(%q) = %d, %v", s, n, ok)
			}
			if runes, ok := Runes(s); len(runes) > 0 || ok {
				t.Errorf("Runes(%q) = %#x, %v", s, runes, ok)
			}
		}
	}
}

func TestP1_2ValidAgreesWithLibrary(t *testing.T) {
	pieces := []string{"", "a", "é", "€", "\U0001F600", "\x80", "\xbf", "\xc3", "\xe2", "\xe2\x82", "\xf0\x9f", "\xed\xa0", "\xff"}
	for _, a := range pieces {
		for _, b := range pieces {
			for _, c := range pieces {
				s := a + b + c
				if Valid(s) != utf8.ValidString(s) {
					t.Errorf("Valid(%q) = %v", s, Valid(s))
				}
			}
		}
	}
}

func TestP1_2FromRunesAll(t *testing.T) {
	var all []int
	var want strings.Builder
	for r := range lastCodePoint + 1 {
		if wantCodePoint(r) {
			all = append(all, r)
			want.WriteRune(rune(r))
		}
	}
	s, ok := FromRunes(all)
	if s != want.String() || !ok {
		t.Fatal("FromRunes of all code points", len(s), ok)
	}
	if back, ok := Runes(s); !slices.Equal(back, all) || !ok {
		t.Error("Runes of all code points", len(back), ok)
	}
}

func TestP1_2FromRunesEdges(t *testing.T) {
	for _, l := range [][]int{nil, {}} {
		if s, ok := FromRunes(l); s != "" || !ok {
			t.Errorf("FromRunes of nothing = %q, %v", s, ok)
		}
	}
	for _, r := range badCodePoints {
		for _, l := range [][]int{{r}, {'a', r}, {r, 'a'}, {'a', r, 0xE9}} {
			if s, ok := FromRunes(l); s != "" || ok {
				t.Errorf("FromRunes(%#x) = %q, %v", l, s, ok)
			}
		}
	}
	l := []int{'a', 0x20AC, 'b'}
	FromRunes(l[:2])
	if !slices.Equal(l, []int{'a', 0x20AC, 'b'}) {
		t.Error("FromRunes modifies its argument", l)
	}
}

func TestP1_2RunesNewMemory(t *testing.T) {
	first, _ := Runes("aé")
	second, _ := Runes("aé")
	first[0] = 'x'
	if second[0] != 'a' {
		t.Error("two results of Runes share memory")
	}
}

func TestP1_3SliceEdges(t *testing.T) {
	for _, x := range []struct {
		s        string
		from, to int
		want     string
	}{
		{"aéb", 0, 3, "aéb"}, {"aéb", 1, 2, "é"}, {"aéb", 1, 9, "éb"}, {"aéb", -5, 1, "a"}, {"aéb", -5, 9, "aéb"},
		{"aéb", 2, 1, ""}, {"aéb", 1, 1, ""}, {"aéb", 3, 9, ""}, {"aéb", 9, 12, ""}, {"aéb", 0, -1, ""}, {"aéb", -3, -1, ""},
		{"aéb", -2, 0, ""}, {"aéb", 9, 1, ""}, {"", 0, 0, ""}, {"", 0, 1, ""}, {"", -1, 1, ""},
		{"aéb", math.MinInt, math.MaxInt, "aéb"}, {"aéb", math.MaxInt, math.MinInt, ""}, {"aéb", 2, math.MaxInt, "b"},
		{"aéb", math.MinInt, 1, "a"}, {"aéb", math.MaxInt, math.MaxInt, ""}, {"aéb", math.MinInt, math.MinInt, ""},
		{"x€\U0001F600y", 1, 3, "€\U0001F600"}, {"e\u0301", 1, 2, "\u0301"},
	} {
		if s, ok := Slice(x.s, x.from, x.to); s != x.want || !ok {
			t.Errorf("Slice(%q, %d, %d) = %q, %v", x.s, x.from, x.to, s, ok)
		}
	}
}

func TestP1_3SliceAllBounds(t *testing.T) {
	for _, s := range goodStrings {
		runes := []rune(s)
		for from := -2; from <= len(runes)+2; from++ {
			for to := -2; to <= len(runes)+2; to++ {
				first, end := max(from, 0), min(to, len(runes))
				want := ""
				if first < end {
					want = string(runes[first:end])
				}
				if got, ok := Slice(s, from, to); got != want || !ok {
					t.Errorf("Slice(%q, %d, %d) = %q, %v", s, from, to, got, ok)
				}
			}
		}
	}
}

func TestP1_3SliceBadStrings(t *testing.T) {
	bounds := [][2]int{{0, 1}, {0, 0}, {2, 1}, {0, 99}, {-1, 2}, {99, 100}, {math.MinInt, math.MaxInt}}
	for _, bad := range badStrings {
		for _, s := range []string{bad, "abc" + bad, bad + "abc"} {
			for _, x := range bounds {
				if got, ok := Slice(s, x[0], x[1]); got != "" || ok {
					t.Errorf("Slice(%q, %d, %d) = %q, %v", s, x[0], x[1], got, ok)
				}
			}
		}
	}
}

func TestConcatenation(t *testing.T) {
	for _, a := range goodStrings {
		for _, b := range goodStrings {
			left, _ := Runes(a)
			right, _ := Runes(b)
			both, ok := Runes(a + b)
			if !slices.Equal(both, append(left, right...)) || !ok {
				t.Errorf("Runes(%q + %q) = %#x, %v", a, b, both, ok)
			}
			text, ok := FromRunes(both)
			if !bytes.Equal([]byte(text), []byte(a+b)) || !ok {
				t.Errorf("FromRunes(%#x) = %q, %v", both, text, ok)
			}
		}
	}
}
