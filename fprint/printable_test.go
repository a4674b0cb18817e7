package fprint

import (
	"math"
	"slices"
	"strings"
	"testing"

	"ndjq/api"
)

// sampleOf returns a printable node with op and the given number of elements, if that is a number which it may have.
func sampleOf(op, size int) api.Filter {
	f := n(op, slices.Repeat([]api.Filter{one}, size)...)
	switch op {
	case api.OpField, api.OpVar, api.OpReduce, api.OpForeach, api.OpLabel, api.OpBreak, api.OpBind, api.OpCall, api.OpDef:
		f.Text = "a"
	case api.OpBinary:
		f.Text = "+"
	case api.OpUpdate:
		f.Text = "="
	}
	return f
}

// Each operator is printable with the numbers of elements that package api describes, and with no others.
func TestP12_1Counts(t *testing.T) {
	for _, x := range []struct{ op, least, most, step int }{
		{api.OpIdentity, 0, 0, 1}, {api.OpRecurse, 0, 0, 1}, {api.OpField, 1, 1, 1}, {api.OpIndex, 2, 2, 1}, {api.OpSlice, 3, 3, 1}, {api.OpIterate, 1, 1, 1}, {api.OpLiteral, 0, 0, 1}, {api.OpVar, 0, 0, 1}, {api.OpArray, 0, 1, 1}, {api.OpObject, 0, 5000, 2},
		{api.OpNeg, 1, 1, 1}, {api.OpPipe, 2, 2, 1}, {api.OpComma, 2, 2, 1}, {api.OpAlt, 2, 2, 1}, {api.OpOr, 2, 2, 1}, {api.OpAnd, 2, 2, 1}, {api.OpBinary, 2, 2, 1}, {api.OpIf, 3, 3, 1}, {api.OpTry, 1, 2, 1}, {api.OpReduce, 3, 3, 1},
		{api.OpForeach, 4, 4, 1}, {api.OpLabel, 1, 1, 1}, {api.OpBreak, 0, 0, 1}, {api.OpBind, 2, 2, 1}, {api.OpCall, 0, 5000, 1}, {api.OpDef, 2, 2, 1}, {api.OpUpdate, 2, 2, 1}, {api.OpInputs, 0, 0, 1},
	} {
		for _, size := range []int{0, 1, 2, 3, 4, 5, 6, 7, 99, 100, 4999, 5000} {
			want := size >= x.least && size <= x.most && (size-x.least)%x.step == 0
			f := sampleOf(x.op, size)
			if Printable(f) != want || (Print(f) != "") != want {
				t.Errorf("an operator %d with %d elements: printable %t, text %s", x.op, size, !want, brief(Print(f)))
			}
		}
	}
}

func TestP12_1Ops(t *testing.T) {
	for _, op := range []int{0, -1, 29, 30, 99, -28, math.MaxInt, math.MinInt, 1 << 32, 1<<32 + 1, 256 + api.OpIdentity} {
		for size := range 5 {
			expectNone(t, sampleOf(op, size))
		}
	}
	expectNone(t, api.Filter{})
}

// The names that are permitted where no keyword is, and where any name is.
func TestP12_1TextsOfNodes(t *testing.T) {
	for _, x := range []struct {
		s          string
		word, name bool
	}{
		{"a", true, true}, {"_", true, true}, {"A9_z", true, true}, {"inputs", true, true}, {"if", false, true}, {"and", false, true}, {"true", false, true}, {"null", false, true}, {"def", false, true}, {"End", true, true}, {"", false, false}, {"1", false, false}, {"1a", false, false}, {"a b", false, false}, {" a", false, false}, {"a ", false, false}, {"$a", false, false}, {".a", false, false}, {"a.b", false, false}, {"a-b", false, false}, {"é", false, false}, {"a\x00", false, false}, {"\xff", false, false}, {"a\n", false, false}, {"..", false, false}, {"+", false, false},
		{strings.Repeat("n", api.MaxName), true, true}, {strings.Repeat("n", api.MaxName+1), false, false}, {strings.Repeat("n", 1<<20), false, false},
	} {
		for _, k := range kinds() {
			f := sampleOf(k.op, k.size)
			f.Text = x.s
			var want bool
			switch k.op {
			case api.OpVar, api.OpReduce, api.OpForeach, api.OpLabel, api.OpBreak, api.OpBind:
				want = x.name
			case api.OpDef:
				want = x.word
			case api.OpCall:
				want = x.word && (x.s != "inputs" || k.size > 0)
			case api.OpField:
				want = x.s != "\xff" && len(x.s) <= api.MaxString
			case api.OpBinary:
				want = x.s == "+"
			default:
				want = x.s == "" && k.op != api.OpUpdate
			}
			if Printable(f) != want || (Print(f) != "") != want {
				t.Errorf("the text %s of an operator %d with %d elements: printable %t", brief(x.s), k.op, k.size, !want)
			}
		}
	}
}

func TestP12_1LimitOfFields(t *testing.T) {
	long := strings.Repeat("é", api.MaxString/2)
	expect(t, fld(dot, long), ".\""+long+"\"")
	expect(t, fld(dot, strings.Repeat("\x01", api.MaxString)), ".\""+strings.Repeat("\\u0001", api.MaxString)+"\"")
	for _, s := range []string{long + "a", strings.Repeat("a", api.MaxString+1), "\xff", "a\xc3", "\xed\xa0\x80", "\xc0\x80", "\xf4\x90\x80\x80", long[:api.MaxString-1]} {
		expectNone(t, fld(dot, s))
	}
}

func TestP12_1Literals(t *testing.T) {
	for _, x := range []api.Value{
		{Kind: api.Number, Int: -1}, {Kind: api.Number, Int: math.MinInt64}, {Kind: api.Array}, {Kind: api.Object}, {Kind: api.Array, Elems: []api.Value{{}}}, {Kind: api.Object, Keys: []string{"a"}, Elems: []api.Value{{}}},
		{Kind: 7}, {Kind: -1}, {Kind: math.MaxInt}, {Int: 1}, {Str: "a"}, {Keys: []string{""}}, {Elems: []api.Value{{}}}, {Kind: api.True, Int: 1}, {Kind: api.False, Str: "a"}, {Kind: api.Number, Str: "a"}, {Kind: api.Number, Keys: []string{""}}, {Kind: api.String, Int: 1}, {Kind: api.String, Elems: []api.Value{{}}},
		{Kind: api.String, Str: "\xff"}, {Kind: api.String, Str: strings.Repeat("a", api.MaxString+1)},
	} {
		expectNone(t, lit(x))
		expectNone(t, n(api.OpArray, lit(x)))
	}
	long := strings.Repeat("a", api.MaxString)
	expect(t, str(long), "\""+long+"\"")
}

// Fields that an operator does not use are zero.
func TestP12_1OtherFields(t *testing.T) {
	for _, k := range kinds() {
		for _, x := range []api.Value{{Kind: api.True}, {Kind: api.Number}, {Kind: api.String}, {Kind: api.Array}, {Int: 1}, {Str: "a"}, {Keys: []string{""}}, {Elems: []api.Value{{}}}} {
			f := sampleOf(k.op, k.size)
			f.Value = x
			if k.op != api.OpLiteral {
				expectNone(t, f)
			}
		}
		for _, params := range [][]string{{""}, {"a"}, {"$a"}, {"a", "b"}} {
			f := sampleOf(k.op, k.size)
			f.Params = params
			if k.op != api.OpDef {
				expectNone(t, f)
			}
		}
	}
}

// An empty slice is as good as none.
func TestP12_1EmptySlices(t *testing.T) {
	for _, k := range kinds() {
		f := sampleOf(k.op, k.size)
		want := Print(f)
		if f.Subs == nil {
			f.Subs = []api.Filter{}
		}
		f.Params, f.Value.Keys, f.Value.Elems = []string{}, []string{}, []api.Value{}
		expect(t, f, want)
	}
}

func TestP12_1Params(t *testing.T) {
	for _, s := range []string{"", "$", "$$a", "a$", "1", "$1", "a b", "$a b", " a", "$ a", ".a", "é", "$é", "\xff", "if", "and", "null", strings.Repeat("n", api.MaxName+1), "$" + strings.Repeat("n", api.MaxName+1)} {
		for _, l := range [][]string{{s}, {"a", s}, {s, "a"}, {"$a", "b", s, "c"}} {
			f := def("f", "", one, two)
			f.Params = l
			expectNone(t, f)
		}
	}
	long := strings.Repeat("n", api.MaxName)
	for _, s := range []string{"a", "$a", "_", "inputs", "$inputs", "$if", "$and", "$null", long, "$" + long, "f"} {
		expect(t, def("f", s, one, two), "def f("+s+"): 1; 2")
		for size := 1; size <= 20; size++ {
			l := slices.Repeat([]string{s}, size)
			if f := def("f", strings.Join(l, " "), one, two); size > api.MaxParams {
				expectNone(t, f)
			} else {
				expect(t, f, "def f("+strings.Join(l, "; ")+"): 1; 2")
			}
		}
	}
	f := def("f", "", one, two)
	f.Params = make([]string, 1<<20)
	expectNone(t, f)
}

// A node is not printable if one of its elements is not, wherever this is.
func TestP12_1Elements(t *testing.T) {
	for _, bad := range []api.Filter{{}, {Op: 29}, n(api.OpIdentity, dot), n(api.OpTry), v(""), fld(dot, "\xff"), num(-1), call("inputs"), call("if"), def("f", "if", one, two), named(api.OpBinary, "=", one, two), {Op: api.OpIdentity, Text: "a"}} {
		for _, k := range kinds() {
			for place := range k.size {
				f := sampleOf(k.op, k.size)
				f.Subs[place] = bad
				expectNone(t, f)
				expectNone(t, n(api.OpArray, n(api.OpNeg, f)))
				expectNone(t, n(api.OpPipe, dot, f))
			}
		}
	}
}

// Whether nodes mean something is no matter of this layer.
func TestP12_1Meaning(t *testing.T) {
	expect(t, v("undefined"), "$undefined")
	expect(t, named(api.OpBreak, "undefined"), "break $undefined")
	expect(t, call("undefined", one, two), "undefined(1; 2)")
	expect(t, n(api.OpArray, inputs), "[inputs]")
	expect(t, fld(inputs, "a"), "inputs.a")
	expect(t, def("f", "a a $a", one, two), "def f(a; a; $a): 1; 2")
	expect(t, named(api.OpUpdate, "=", one, two), "1 = 2")
}
