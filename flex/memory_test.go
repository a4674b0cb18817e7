package flex

import (
	"slices"
	"strings"
	"testing"
	"unsafe"

	"ndjq/api"
)

const sample = "def f($a; b): .c | $a + 12 * \"str\" // ..; {if: [f(1; .)]}? # comment"

// bounds returns the addresses of the first byte of a string and of the one behind its last byte.
func bounds(s string) (uintptr, uintptr) {
	from := uintptr(unsafe.Pointer(unsafe.StringData(s)))
	return from, from + uintptr(len(s))
}

func overlap(a, b string) bool {
	fromA, toA := bounds(a)
	fromB, toB := bounds(b)
	return a != "" && b != "" && fromA < toB && fromB < toA
}

func TestTextsAreNewMemory(t *testing.T) {
	s := strings.Clone(sample)
	first, second := lex(s), lex(s)
	if len(first.tokens) != 32 || !first.equal(second) {
		t.Fatalf("Lex(%s) = %v", s, first)
	}
	for i, token := range first.tokens {
		if overlap(token.Text, s) {
			t.Errorf("the text %s shares memory with the argument", token.Text)
		}
		for j, other := range second.tokens {
			if overlap(token.Text, other.Text) {
				t.Errorf("the texts of the tokens %d and %d of two results share memory", i, j)
			}
		}
	}
}

// What is done to a result has no effect on later ones.
func TestResultsAreNewMemory(t *testing.T) {
	for _, s := range []string{"", "a", sample, strings.Repeat(". ", api.MaxTokens)} {
		first, second := lex(s), lex(s)
		want := slices.Clone(first.tokens)
		whole := first.tokens[:cap(first.tokens)]
		for i := range whole {
			whole[i] = api.FToken{Kind: 99, At: 99, Text: "spoiled", Int: 99}
		}
		if !slices.Equal(second.tokens, want) || !slices.Equal(lex(s).tokens, want) {
			t.Errorf("the results of Lex(%s) share memory", brief(s))
		}
	}
}

// Errors leave nothing behind.
func TestCallsAreIndependent(t *testing.T) {
	want := lex(sample)
	for _, s := range []string{"!", "a 1.5", "\"", sample + "!", strings.Repeat("x", api.MaxText+1), strings.Repeat(".?", api.MaxTokens), "# open"} {
		before := lex(s)
		if got := lex(sample); !got.equal(want) {
			t.Errorf("behind Lex(%s), Lex(%s) = %v", brief(s), sample, got)
		}
		if got := lex(s); !got.equal(before) || got.e != api.OK && got.tokens != nil {
			t.Errorf("Lex(%s) again = %v; before %v", brief(s), got, before)
		}
	}
}
