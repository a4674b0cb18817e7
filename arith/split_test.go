package arith

import (
	"slices"
	"strings"
	"testing"
	"unicode/utf8"

	"ndjq/api"
)

func expectSplit(t *testing.T, s, sep string, want ...string) {
	t.Helper()
	got, ok := Split(s, sep)
	if !ok || !slices.Equal(got, want) {
		t.Errorf("Split of %s by %s is %q, %v; expected %q", brief(s), brief(sep), got[:min(len(got), 9)], ok, want[:min(len(want), 9)])
	}
}

func TestP6_5Split(t *testing.T) {
	expectSplit(t, "", "")
	expectSplit(t, "", ",")
	expectSplit(t, "", "ab")
	expectSplit(t, "a", "", "a")
	expectSplit(t, "ab", "", "a", "b")
	expectSplit(t, "a\x00é€😀\n", "", "a", "\x00", "é", "€", "😀", "\n")
	expectSplit(t, "e\u0301", "", "e", "\u0301")
	expectSplit(t, "\ufffd", "", "\ufffd")
	expectSplit(t, "a,b", ",", "a", "b")
	expectSplit(t, "a", ",", "a")
	expectSplit(t, ",", ",", "", "")
	expectSplit(t, ",,", ",", "", "", "")
	expectSplit(t, ",a,,b,", ",", "", "a", "", "b", "")
	expectSplit(t, "ab", "ab", "", "")
	expectSplit(t, "a", "ab", "a")
	expectSplit(t, "aaa", "aa", "", "a")
	expectSplit(t, "aaaa", "aa", "", "", "")
	expectSplit(t, "ababa", "aba", "", "ba")
	expectSplit(t, "abcabc", "ca", "ab", "bc")
	expectSplit(t, "aéb", "é", "a", "b")
	expectSplit(t, "éèé", "è", "é", "é")
	expectSplit(t, "a\x00b", "\x00", "a", "b")
	expectSplit(t, "aAa", "A", "a", "a")
	expectSplit(t, "a b\tc", " ", "a", "b\tc")
	expectSplit(t, "a.b", ".", "a", "b")
}

// Strings are not values here, so that no limit applies to them.
func TestP6_5SplitLong(t *testing.T) {
	n := 3 * api.MaxString
	expectSplit(t, strings.Repeat("é", n), "", slices.Repeat([]string{"é"}, n)...)
	expectSplit(t, strings.Repeat(",", n), ",", make([]string, n+1)...)
	expectSplit(t, strings.Repeat("x", n), strings.Repeat("x", n), "", "")
	expectSplit(t, "x", strings.Repeat("x", n), "x")
	expectSplit(t, strings.Repeat("x", 1<<20), ",", strings.Repeat("x", 1<<20))
}

func TestP6_5SplitOfBytes(t *testing.T) {
	for _, bad := range []string{"\xff", "\x80", "\xc3", "a\xe9", "\xc0\x80", "\xed\xa0\x80", "\xf4\x90\x80\x80", "\xe2\x82", "ab\x80ab", "é\xa9"} {
		for _, good := range []string{"", "a", ",", "é", "\xc3\xa9"} {
			for _, x := range [][2]string{{bad, good}, {good, bad}, {bad, bad}, {good + bad + good, good}} {
				if l, ok := Split(x[0], x[1]); ok || len(l) != 0 {
					t.Errorf("Split of %q by %q is %q, %v", x[0], x[1], l, ok)
				}
			}
		}
	}
}

// parts is a second statement of P6.5, which goes over a valid string from the left.
func parts(s, sep string) []string {
	var l []string
	for sep == "" && s != "" {
		_, size := utf8.DecodeRuneInString(s)
		l, s = append(l, s[:size]), s[size:]
	}
	if s == "" {
		return l
	}
	part := ""
	for s != "" {
		if rest, found := strings.CutPrefix(s, sep); found {
			l, part, s = append(l, part), "", rest
			continue
		}
		_, size := utf8.DecodeRuneInString(s)
		part, s = part+s[:size], s[size:]
	}
	return append(l, part)
}

// words returns all strings of at most n of the letters.
func words(letters []string, n int) []string {
	l, from := []string{""}, 0
	for range n {
		to := len(l)
		for _, s := range l[from:to] {
			for _, letter := range letters {
				l = append(l, s+letter)
			}
		}
		from = to
	}
	return l
}

func TestP6_5SplitOfShortStrings(t *testing.T) {
	for _, letters := range [][]string{{"a", "b"}, {"a", "é", "è"}, {"€", "ࢀ"}} {
		separators := words(letters, 3)
		for _, s := range words(letters, 7) {
			for _, sep := range separators {
				expectSplit(t, s, sep, parts(s, sep)...)
				l, _ := Split(s, sep)
				if strings.Join(l, sep) != s {
					t.Errorf("the parts of %q by %q are not those of it: %q", s, sep, l)
				}
			}
		}
	}
}

// FuzzSplit runs on its seeds with go test, and goes on from them with go test -fuzz.
func FuzzSplit(f *testing.F) {
	for _, x := range [][2]string{{"", ""}, {"a,b", ","}, {"aaa", "aa"}, {"aéb", ""}, {"é", "\xa9"}, {"\xff", ""}, {"é\ufffd", "\ufffd"}} {
		f.Add(x[0], x[1])
	}
	f.Fuzz(func(t *testing.T, s, sep string) {
		if utf8.ValidString(s) && utf8.ValidString(sep) {
			expectSplit(t, s, sep, parts(s, sep)...)
		} else if l, ok := Split(s, sep); ok || len(l) != 0 {
			t.Errorf("Split of %q by %q is %q, %v", s, sep, l, ok)
		}
	})
}
