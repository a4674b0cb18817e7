package desugar

import (
	"fmt"
	"slices"
	"strings"
	"testing"

	"ndjq/api"
	"ndjq/check"
	"ndjq/fparse"
)

// preludeOf14 contains the definitions of the chapter with all parentheses, one on each line, with q0, q1 and so on in the places of the quoted names.
const preludeOf14 = `def q0: (def r: ((.), (((.[])?) | (r))); (r)); .
def q1(p; f): (f) as $v | (reduce (path(p)) as $q ((.); (setpath(($q); ($v))))); .
def q2(p; f): (reduce (path(p)) as $q (([., []]); (. as $s | (label $out | (((((($s[0]) | ((getpath($q)) | (f)))) as $v | (([(($s[0]) | (setpath($q; $v))), ($s[1])]) | ((.), (break $out))))), ([($s[0]), (($s[1]) + ([$q]))])))))) | ((.) as $s | (($s[0]) | (delpaths($s[1])))); .
def q3(p; f): (f) as $v | (q2((p); ((.) + ($v)))); .
def q4(p; f): (f) as $v | (q2((p); ((.) - ($v)))); .
def q5(p; f): (f) as $v | (q2((p); ((.) * ($v)))); .
def q6(p; f): (f) as $v | (q2((p); ((.) / ($v)))); .
def q7(p; f): (f) as $v | (q2((p); ((.) % ($v)))); .
def map(f): [(.[]) | (f)]; .
def select(f): if (f) then (.) else (empty) end; .
def recurse: (def r: ((.), (((.[])?) | (r))); (r)); .
def recurse(f): (def r: ((.), ((f) | (r))); (r)); .
def range($n): (0) | (def r: (if ((.) < ($n)) then ((.), (((.) + (1)) | (r))) else (empty) end); (r)); .
def range($m; $n): ($m) | (def r: (if ((.) < ($n)) then ((.), (((.) + (1)) | (r))) else (empty) end); (r)); .
def while(c; f): (def r: (if (c) then ((.), ((f) | (r))) else (empty) end); (r)); .
def until(c; f): (def r: (if (c) then (.) else ((f) | (r)) end); (r)); .
def repeat(f): (def r: ((.), ((f) | (r))); (r)); .
def limit($n; f): if (($n) > (0)) then (label $out | (foreach (f) as $x ((0); ((.) + (1)); (($x), (if ((.) >= ($n)) then (break $out) else (empty) end))))) else (empty) end; .
def first(f): label $out | ((f) | ((.), (break $out))); .
def last(f): reduce (f) as $x ((null); ($x)); .
def nth($n; f): last(limit((($n) + (1)); (f))); .
def isempty(f): label $out | (((f) | ((false), (break $out))), (true)); .
def any(f): (isempty((.[]) | ((f) // (empty)))) | (not); .
def all(f): isempty((.[]) | (if (f) then (empty) else (true) end)); .
def del(f): delpaths([path(f)]); .
def to_array: if ((type) == ("array")) then (.) else ([.]) end; .
def with_entries(f): (to_entries) | ((map(f)) | (from_entries)); .
def map_values(f): q2((.[]); (f)); .
def sort_by(f): sort_keys([(.[]) | ([f])]); .
def group_by(f): group_keys([(.[]) | ([f])]); .
def unique_by(f): unique_keys([(.[]) | ([f])]); .
def min_by(f): min_keys([(.[]) | ([f])]); .
def max_by(f): max_keys([(.[]) | ([f])]); .
def walk(f): (def w: ((if ((type) == ("object")) then (map_values(w)) else (if ((type) == ("array")) then (map(w)) else (.) end) end) | (f)); (w)); .
def paths: (path(q0)) | (select((length) > (0))); .
def leaf_paths: (.) as $v | ((paths) | (select((.) as $p | (($v) | ((getpath($p)) | ((type) | (((.) != ("array")) and ((.) != ("object"))))))))); .
def inside($w): (.) as $v | (($w) | (contains($v))); .
def combinations: if ((length) == (0)) then ([]) else ((.[0][]) as $x | (((.[1:]) | (combinations)) as $r | (([$x]) + ($r)))) end; .
def in($w): (.) as $k | (($w) | (has($k))); .
def flatten: flatten(1000); .`

// statedPrelude is parsed once.
var statedPrelude = parsedPrelude()

func parsedPrelude() []api.Filter {
	var l []api.Filter
	for _, line := range strings.Split(preludeOf14, "\n") {
		f, at, e := fparse.Parse(line)
		if e != api.OK {
			panic(fmt.Sprintf("%s: error %d at %d", line, e, at))
		}
		l = append(l, unquoted(f))
	}
	return l
}

// statedDef returns the definition with the text "name/n", or the zero node.
func statedDef(s string) api.Filter {
	for _, d := range statedPrelude {
		if s == fmt.Sprintf("%s/%d", d.Text, len(d.Params)) {
			return d
		}
	}
	return api.Filter{}
}

func TestP14_1Prelude(t *testing.T) {
	l := Prelude()
	if len(l) != 40 || len(l) != len(statedPrelude) {
		t.Fatalf("Prelude has %d definitions", len(l))
	}
	for i, d := range l {
		if !equal(d, statedPrelude[i]) {
			t.Errorf("definition %d is %s, not %s", i, show(d), show(statedPrelude[i]))
		}
		if d.Op != api.OpDef || len(d.Subs) != 2 || !equal(d.Subs[1], dot) {
			t.Errorf("definition %d is %s", i, show(d))
		}
	}
}

// Some definitions, node by node.
func TestP14_1Nodes(t *testing.T) {
	one := api.Filter{Op: api.OpLiteral, Value: api.Value{Kind: api.Number, Int: 1}}
	values := n(api.OpTry, n(api.OpIterate, dot))
	r := def("r", "", n(api.OpComma, dot, n(api.OpPipe, values, call("r"))), call("r"))
	set := named(api.OpReduce, "q", call("path", call("p")), dot, call("setpath", variable("q"), variable("v")))
	first := named(api.OpLabel, "out", n(api.OpPipe, call("f"), n(api.OpComma, dot, named(api.OpBreak, "out"))))
	null := n(api.OpLiteral)
	for name, want := range map[string]api.Filter{
		"../0":         def("..", "", r, dot),
		"=/2":          def("=", "p f", named(api.OpBind, "v", call("f"), set), dot),
		"-=/2":         def("-=", "p f", named(api.OpBind, "v", call("f"), call("|=", call("p"), named(api.OpBinary, "-", dot, variable("v")))), dot),
		"first/1":      def("first", "f", first, dot),
		"last/1":       def("last", "f", named(api.OpReduce, "x", call("f"), null, variable("x")), dot),
		"nth/2":        def("nth", "$n f", call("last", call("limit", named(api.OpBinary, "+", variable("n"), one), call("f"))), dot),
		"paths/0":      def("paths", "", n(api.OpPipe, call("path", call("..")), call("select", named(api.OpBinary, ">", call("length"), number(0)))), dot),
		"to_array/0":   def("to_array", "", n(api.OpIf, named(api.OpBinary, "==", call("type"), literal("array")), dot, n(api.OpArray, dot)), dot),
		"del/1":        def("del", "f", call("delpaths", n(api.OpArray, call("path", call("f")))), dot),
		"flatten/0":    def("flatten", "", call("flatten", number(1000)), dot),
		"in/1":         def("in", "$w", named(api.OpBind, "k", dot, n(api.OpPipe, variable("w"), call("has", variable("k")))), dot),
		"map_values/1": def("map_values", "f", call("|=", n(api.OpIterate, dot), call("f")), dot),
	} {
		i := slices.IndexFunc(Prelude(), func(d api.Filter) bool { return name == fmt.Sprintf("%s/%d", d.Text, len(d.Params)) })
		if i < 0 || !equal(Prelude()[i], want) {
			t.Errorf("%s is number %d, not %s", name, i, show(want))
		}
	}
}

func number(i int64) api.Filter {
	return api.Filter{Op: api.OpLiteral, Value: api.Value{Kind: api.Number, Int: i}}
}

// The definitions consist of core nodes, and have names and numbers of parameters of their own; those with names are builtins.
func TestP14_1Core(t *testing.T) {
	seen := map[string]bool{}
	for i, d := range Prelude() {
		for _, f := range nodesOf(d) {
			if slices.Contains(sugar(), f.Op) || f.Op == api.OpInputs {
				t.Errorf("definition %d contains %s", i, show(f))
			}
		}
		s := fmt.Sprintf("%s/%d", d.Text, len(d.Params))
		if seen[s] || slices.Contains(check.Builtins(), s) == slices.Contains(quoted(), d.Text) {
			t.Errorf("definition %d is %s", i, s)
		}
		seen[s] = true
	}
}

// A definition calls only builtins, its own functions and the definitions before it, so that it may stand within these and around all others.
func TestP14_1Scopes(t *testing.T) {
	var before []string
	for _, d := range Prelude() {
		before = append(before, fmt.Sprintf("%s/%d", d.Text, len(d.Params)))
		for _, s := range outerCalls(d.Subs[0], ownNames(d)) {
			if !slices.Contains(before, s) && !isOf15(s) {
				t.Errorf("%s/%d calls %s", d.Text, len(d.Params), s)
			}
		}
	}
}

// isOf15 reports whether s is a builtin of chapter 15, which the prelude does not define.
func isOf15(s string) bool {
	return slices.Contains(check.Builtins(), s) && statedDef(s).Op == 0
}
