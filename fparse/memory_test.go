package fparse

import (
	"strings"
	"testing"
	"unsafe"

	"ndjq/api"
)

// samples have nodes of all kinds.
func samples() []string {
	l := []string{
		"def f($a; b; $c): .c | $a + 12 * \"str\" // ..; {if: [f(1; .)], a, \"b\", $c, (.d): 2}?",
		"reduce inputs as $x (0; . + $x)", "foreach .[] as $x (0; 1; 2), foreach .[] as $x (0; 1)", "label $out | try break $out catch .a.\"b\"[1][:2][3:][]",
		"if 1 then 2 elif 3 then -4 end | . as $y | .a |= ($y and true or null)", "f(1; 2; 3; 4; 5; 6; 7)", "{a, b, c, d, e, f, g}", ".a.b.c.d", "{\"k\"}, {k}", "inputs(1), inputs",
	}
	for s := range simple() {
		l = append(l, s)
	}
	return l
}

// area is the memory from one address to before another.
type area struct {
	from, to uintptr
	name     string
}

func areaOf[T any](l []T, name string) area {
	l = l[:cap(l)]
	var none T
	from := uintptr(unsafe.Pointer(unsafe.SliceData(l)))
	return area{from, from + uintptr(len(l))*unsafe.Sizeof(none), name}
}

// slicesOf are the areas of all slices of a node, with their spare capacity.
func slicesOf(f api.Filter) []area {
	l := []area{areaOf(f.Subs, "the elements of "+show(f)), areaOf(f.Params, "the parameters of "+show(f)), areaOf(f.Value.Elems, "a value"), areaOf(f.Value.Keys, "a value")}
	for _, sub := range f.Subs {
		l = append(l, slicesOf(sub)...)
	}
	return l
}

// textsOf are the areas of all strings of a node.
func textsOf(f api.Filter) []area {
	var l []area
	for _, s := range append([]string{f.Text, f.Value.Str}, f.Params...) {
		from := uintptr(unsafe.Pointer(unsafe.StringData(s)))
		l = append(l, area{from, from + uintptr(len(s)), s})
	}
	for _, sub := range f.Subs {
		l = append(l, textsOf(sub)...)
	}
	return l
}

func expectApart(t *testing.T, l []area) {
	t.Helper()
	for i, a := range l {
		for _, b := range l[:i] {
			if a.from < a.to && b.from < b.to && a.from < b.to && b.from < a.to {
				t.Errorf("%s and %s share memory", a.name, b.name)
			}
		}
	}
}

func TestResultsAreNewMemory(t *testing.T) {
	for _, s := range samples() {
		f, _, e := Parse(s)
		g, _, _ := Parse(s)
		if e != api.OK || !equal(f, g) {
			t.Fatalf("Parse(%s) = %s and %s, error %d", s, show(f), show(g), e)
		}
		expectApart(t, append(slicesOf(f), slicesOf(g)...))
	}
}

func TestTextsAreNewMemory(t *testing.T) {
	for _, s := range samples() {
		s = strings.Clone(s)
		from := uintptr(unsafe.Pointer(unsafe.StringData(s)))
		f, _, _ := Parse(s)
		for _, text := range textsOf(f) {
			expectApart(t, []area{text, {from, from + uintptr(len(s)), "the argument"}})
		}
	}
}

// spoil changes all of a node, with the spare capacity of its slices.
func spoil(f *api.Filter) {
	for i := range f.Subs {
		spoil(&f.Subs[i])
	}
	l, params := f.Subs[:cap(f.Subs)], f.Params[:cap(f.Params)]
	for i := range l {
		l[i] = api.Filter{Op: 99, Text: "spoiled"}
	}
	for i := range params {
		params[i] = "spoiled"
	}
}

// What is done to a result, and errors, have no effect on later results.
func TestCallsAreIndependent(t *testing.T) {
	for _, s := range samples() {
		f, _, _ := Parse(s)
		g, _, _ := Parse(s)
		spoil(&f)
		expect(t, s, g)
		for _, bad := range []string{"", "(", ")", s + ")", s + " 1.5", head(api.MaxParams+1) + s + ";" + s} {
			h, at, e := Parse(bad)
			if e == api.OK || !equal(h, api.Filter{}) {
				t.Errorf("Parse(%s) = %s, error %d", brief(bad), show(h), e)
			}
			expect(t, s, g)
			expectError(t, bad, at, e)
		}
	}
}
