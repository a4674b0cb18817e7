package eval_test

import (
	"slices"
	"strconv"
	"strings"

	"ndjq/api"
	"ndjq/arith"
	"ndjq/path"
	"ndjq/table"
	"ndjq/text"
	"ndjq/value"
)

// The chapter is stated here a second time: an output is handed on by a call of a function, an evaluation ends when its function returns, and names are looked up as they stand.

// spot is a value and, in the path mode, its path.
type spot struct {
	v      api.Value
	path   []api.Value
	traced bool
}

func (in spot) plain() spot { return spot{v: in.v} }

// fresh returns the value v with the empty path, if in has a path.
func (in spot) fresh(v api.Value) spot { return spot{v: v, traced: in.traced} }

// halt says why an evaluation ended before it was exhausted.
type halt struct {
	how   string
	err   api.Value // of failed
	mark  *int      // of broken: the label; of passed: the node whose consumer has ended
	inner *halt     // of passed
}

const (
	failed = "failed"
	broken = "broken"
	usedUp = "used up"
	passed = "passed"
)

type yield func(spot) *halt

// known is a name and what it means.
type known struct {
	outer *known
	what  string
	v     api.Value  // of a variable
	mark  *int       // of a label
	f     api.Filter // of a function: its OpDef; of a parameter: the filter that was given for it
	home  *known     // of a parameter: the names where it was given
}

func (k *known) find(what string) *known {
	for ; k != nil; k = k.outer {
		if k.what == what {
			return k
		}
	}
	return nil
}

func (k *known) variable(name string, v api.Value) *known {
	return &known{outer: k, what: "$" + name, v: v}
}

func signature(name string, params int) string { return name + "/" + strconv.Itoa(params) }

// stated evaluates filters by the second statement.
type stated struct {
	fuel, made int
	outs       []api.Value
}

// statedOutcome returns what Eval and Visits return for valid arguments.
func statedOutcome(f api.Filter, names []string, values []api.Value, v api.Value, fuel int) (api.Outcome, int) {
	var k *known
	for i, name := range names {
		k = k.variable(name, values[i])
	}
	r := stated{fuel: fuel}
	h := r.eval(f, k, spot{v: v}, func(out spot) *halt {
		r.outs = append(r.outs, out.v)
		return nil
	})
	switch {
	case h == nil:
		return api.Outcome{Outs: r.outs}, r.made
	case h.how == usedUp:
		return api.Outcome{Outs: r.outs, End: api.EndFuel}, r.made
	}
	return api.Outcome{Outs: r.outs, End: api.EndError, Err: h.err}, r.made
}

func (r *stated) visit() *halt {
	if r.made == r.fuel {
		return &halt{how: usedUp}
	}
	r.made++
	return nil
}

func fail(e api.Errno) *halt {
	return &halt{how: failed, err: api.Value{Kind: api.String, Str: arith.Message(e)}}
}

// result hands on the result of a function of another layer.
func result(v api.Value, e api.Errno, to yield) *halt {
	if e != api.OK {
		return fail(e)
	}
	return to(spot{v: v})
}

// extend hands on v, which lies behind the steps.
func extend(in spot, v api.Value, e api.Errno, steps []api.Value, to yield) *halt {
	if e != api.OK {
		return fail(e)
	}
	out := spot{v, nil, in.traced}
	if in.traced {
		out.path = slices.Concat(in.path, steps)
		if !value.Valid(api.Value{Kind: api.Array, Elems: out.path}) {
			return fail(api.ErrLimit)
		}
	}
	return to(out)
}

func (r *stated) eval(f api.Filter, k *known, in spot, to yield) *halt {
	if h := r.visit(); h != nil {
		return h
	}
	if in.traced && !hasPaths(f, k) {
		return fail(api.ErrPath)
	}
	s := f.Subs
	switch f.Op {
	case api.OpIdentity:
		return to(in)
	case api.OpLiteral:
		return to(spot{v: f.Value})
	case api.OpVar:
		return to(spot{v: k.find("$" + f.Text).v})
	case api.OpIndex, api.OpSlice, api.OpIterate:
		return r.steps(f, k, in, to)
	case api.OpArray:
		return r.array(f, k, in, to)
	case api.OpObject:
		return r.object(s, k, in, api.Value{Kind: api.Object}, to)
	case api.OpNeg:
		return r.eval(s[0], k, in, func(a spot) *halt {
			v, e := arith.Neg(a.v)
			return result(v, e, to)
		})
	case api.OpBinary:
		return r.eval(s[0], k, in, func(a spot) *halt {
			return r.eval(s[1], k, in, func(b spot) *halt {
				v, e := arith.Binary(f.Text, a.v, b.v)
				return result(v, e, to)
			})
		})
	case api.OpOr, api.OpAnd, api.OpIf:
		return r.branches(f, k, in, to)
	case api.OpReduce, api.OpForeach:
		return r.eval(s[1], k, in, func(state spot) *halt { return r.states(f, k, in, state, to) })
	case api.OpCall:
		return r.call(f, k, in, to)
	}
	return r.control(f, k, in, to)
}

func (r *stated) control(f api.Filter, k *known, in spot, to yield) *halt {
	s := f.Subs
	switch f.Op {
	case api.OpPipe:
		return r.eval(s[0], k, in, func(w spot) *halt { return r.eval(s[1], k, w, to) })
	case api.OpComma:
		if h := r.eval(s[0], k, in, to); h != nil {
			return h
		}
		return r.eval(s[1], k, in, to)
	case api.OpAlt, api.OpTry:
		return r.guarded(f, k, in, to)
	case api.OpLabel:
		mark := new(int)
		h := r.eval(s[0], &known{outer: k, what: "label " + f.Text, mark: mark}, in, to)
		if h != nil && h.how == broken && h.mark == mark {
			return nil
		}
		return h
	case api.OpBreak:
		return &halt{how: broken, mark: k.find("label " + f.Text).mark}
	case api.OpBind:
		return r.eval(s[0], k, in.plain(), func(x spot) *halt { return r.eval(s[1], k.variable(f.Text, x.v), in, to) })
	case api.OpDef:
		return r.eval(s[1], &known{outer: k, what: signature(f.Text, len(f.Params)), f: f}, in, to)
	}
	panic("no node of the core")
}

func (r *stated) steps(f api.Filter, k *known, in spot, to yield) *halt {
	s := f.Subs
	return r.eval(s[0], k, in, func(w spot) *halt {
		switch f.Op {
		case api.OpIndex:
			return r.eval(s[1], k, in.plain(), func(i spot) *halt {
				v, e := path.Step(w.v, i.v)
				return extend(w, v, e, []api.Value{i.v}, to)
			})
		case api.OpSlice:
			return r.eval(s[1], k, in.plain(), func(a spot) *halt {
				return r.eval(s[2], k, in.plain(), func(b spot) *halt {
					i, e := path.SliceStep(a.v, b.v)
					if e != api.OK {
						return fail(e)
					}
					v, e := path.Step(w.v, i)
					return extend(w, v, e, []api.Value{i}, to)
				})
			})
		}
		elems, e := table.Values(w.v)
		if e != api.OK {
			return fail(e)
		}
		keys, _ := table.Keys(w.v)
		for i := range elems.Elems {
			if h := r.visit(); h != nil {
				return h
			}
			if h := extend(w, elems.Elems[i], api.OK, keys.Elems[i:i+1], to); h != nil {
				return h
			}
		}
		return nil
	})
}

func (r *stated) array(f api.Filter, k *known, in spot, to yield) *halt {
	v := api.Value{Kind: api.Array}
	for _, sub := range f.Subs {
		h := r.eval(sub, k, in, func(x spot) *halt {
			v.Elems = append(v.Elems, x.v)
			if !value.Valid(v) {
				return fail(api.ErrLimit)
			}
			return nil
		})
		if h != nil {
			return h
		}
	}
	return to(spot{v: v})
}

// object hands on the objects with the members of v, and with those of l.
func (r *stated) object(l []api.Filter, k *known, in spot, v api.Value, to yield) *halt {
	if len(l) == 0 {
		whole, e := value.Obj(v.Keys, v.Elems)
		return result(whole, e, to)
	}
	return r.eval(l[0], k, in, func(key spot) *halt {
		if key.v.Kind != api.String {
			return fail(api.ErrType)
		}
		return r.eval(l[1], k, in, func(x spot) *halt {
			longer := api.Value{Keys: append(slices.Clone(v.Keys), key.v.Str), Elems: append(slices.Clone(v.Elems), x.v)}
			return r.object(l[2:], k, in, longer, to)
		})
	})
}

func (r *stated) branches(f api.Filter, k *known, in spot, to yield) *halt {
	return r.eval(f.Subs[0], k, in.plain(), func(x spot) *halt {
		isTrue := value.Truthy(x.v)
		switch {
		case f.Op == api.OpIf && isTrue:
			return r.eval(f.Subs[1], k, in, to)
		case f.Op == api.OpIf:
			return r.eval(f.Subs[2], k, in, to)
		case f.Op == api.OpOr && isTrue, f.Op == api.OpAnd && !isTrue:
			return to(spot{v: value.Bool(isTrue)})
		}
		return r.eval(f.Subs[1], k, in, func(y spot) *halt { return to(spot{v: value.Bool(value.Truthy(y.v))}) })
	})
}

// guarded evaluates OpTry and OpAlt. What the consumer ends with is passed, and so not taken for an end of element 0.
func (r *stated) guarded(f api.Filter, k *known, in spot, to yield) *halt {
	self, found := new(int), false
	h := r.eval(f.Subs[0], k, in, func(w spot) *halt {
		if f.Op == api.OpAlt && !value.Truthy(w.v) {
			return nil
		}
		found = true
		if h := to(w); h != nil {
			return &halt{how: passed, mark: self, inner: h}
		}
		return nil
	})
	switch {
	case h != nil && h.how == passed && h.mark == self:
		return h.inner
	case h != nil && h.how != failed:
		return h
	case f.Op == api.OpAlt && found:
		return nil
	case f.Op == api.OpAlt:
		return r.eval(f.Subs[1], k, in, to)
	case h == nil || len(f.Subs) == 1:
		return nil
	}
	return r.eval(f.Subs[1], k, in.fresh(h.err), to)
}

// states evaluates OpReduce and OpForeach with a state at first.
func (r *stated) states(f api.Filter, k *known, in, state spot, to yield) *halt {
	h := r.eval(f.Subs[0], k, in.plain(), func(x spot) *halt {
		inner := k.variable(f.Text, x.v)
		last := in.fresh(api.Value{})
		h := r.eval(f.Subs[2], inner, state, func(out spot) *halt {
			last = out
			if f.Op == api.OpForeach {
				state = out
				return r.eval(f.Subs[3], inner, out, to)
			}
			return nil
		})
		if f.Op == api.OpReduce {
			state = last
		}
		return h
	})
	if h != nil || f.Op == api.OpForeach {
		return h
	}
	return to(state)
}

// hasPaths reports whether f is evaluated in the path mode.
func hasPaths(f api.Filter, k *known) bool {
	switch f.Op {
	case api.OpIdentity, api.OpIndex, api.OpSlice, api.OpIterate, api.OpPipe, api.OpComma, api.OpTry, api.OpLabel, api.OpDef, api.OpAlt, api.OpIf, api.OpBind, api.OpReduce, api.OpForeach, api.OpBreak:
		return true
	case api.OpCall:
		what := signature(f.Text, len(f.Subs))
		return k.find(what) != nil || slices.Contains([]string{"empty/0", "error/0", "error/1", "getpath/1"}, what)
	}
	return false
}

func (r *stated) call(f api.Filter, k *known, in spot, to yield) *halt {
	what := signature(f.Text, len(f.Subs))
	found := k.find(what)
	switch {
	case found != nil && found.f.Op == api.OpDef && found.home == nil:
		return r.function(f, k, found, found, 0, in, to)
	case found != nil:
		return r.eval(found.f.Subs[0], found.home.outer, in, to)
	}
	switch what {
	case "empty/0":
		return nil
	case "error/0":
		return &halt{how: failed, err: in.v}
	case "error/1":
		return r.eval(f.Subs[0], k, in.plain(), func(w spot) *halt { return &halt{how: failed, err: w.v} })
	case "path/1":
		return r.eval(f.Subs[0], k, spot{v: in.v, traced: true}, func(out spot) *halt {
			return to(spot{v: api.Value{Kind: api.Array, Elems: out.path}})
		})
	}
	return r.args(f.Subs, k, in.plain(), nil, func(args []api.Value) *halt {
		v, e := statedBuiltins()[what](append([]api.Value{in.v}, args...))
		if in.traced {
			return extend(in, v, e, args[0].Elems, to)
		}
		return result(v, e, to)
	})
}

// function evaluates the body of a function for the parameters from i on, where inner contains those before.
func (r *stated) function(f api.Filter, k, def, inner *known, i int, in spot, to yield) *halt {
	if i == len(def.f.Params) {
		return r.eval(def.f.Subs[0], inner, in, to)
	}
	name, isValue := strings.CutPrefix(def.f.Params[i], "$")
	if isValue {
		return r.eval(f.Subs[i], k, in.plain(), func(x spot) *halt {
			return r.function(f, k, def, inner.variable(name, x.v), i+1, in, to)
		})
	}
	// The home is one more name around those of the caller, so that it is never nil.
	arg := &known{outer: inner, what: signature(name, 0), f: api.Filter{Subs: f.Subs[i : i+1]}, home: &known{outer: k}}
	return r.function(f, k, def, arg, i+1, in, to)
}

func (r *stated) args(l []api.Filter, k *known, in spot, args []api.Value, to func([]api.Value) *halt) *halt {
	if len(l) == 0 {
		return to(args)
	}
	return r.eval(l[0], k, in, func(x spot) *halt { return r.args(l[1:], k, in, append(slices.Clone(args), x.v), to) })
}

type onValues func(l []api.Value) (api.Value, api.Errno)

func one(f func(api.Value) (api.Value, api.Errno)) onValues {
	return func(l []api.Value) (api.Value, api.Errno) { return f(l[0]) }
}

func two(f func(v, w api.Value) (api.Value, api.Errno)) onValues {
	return func(l []api.Value) (api.Value, api.Errno) { return f(l[0], l[1]) }
}

func twice(f func(v, w api.Value) (api.Value, api.Errno)) onValues {
	return func(l []api.Value) (api.Value, api.Errno) { return f(l[0], l[0]) }
}

// statedBuiltins are the builtins that are functions of the input and the parameters.
func statedBuiltins() map[string]onValues {
	return map[string]onValues{
		"not/0":    func(l []api.Value) (api.Value, api.Errno) { return value.Bool(!value.Truthy(l[0])), api.OK },
		"type/0":   func(l []api.Value) (api.Value, api.Errno) { return value.Str(value.TypeName(l[0])) },
		"length/0": one(table.Length), "keys/0": one(table.Keys), "elements/0": one(table.Values), "add/0": one(table.Add), "any/0": one(table.Any), "all/0": one(table.All), "reverse/0": one(table.Reverse),
		"to_entries/0": one(table.ToEntries), "from_entries/0": one(table.FromEntries), "transpose/0": one(table.Transpose),
		"explode/0": one(text.Explode), "implode/0": one(text.Implode), "ascii_downcase/0": one(text.Lower), "ascii_upcase/0": one(text.Upper), "trim/0": one(text.Trim),
		"tostring/0": one(text.ToString), "tonumber/0": one(text.ToNumber), "tojson/0": one(text.ToJSON), "fromjson/0": one(text.FromJSON),
		"has/1": two(table.Has), "contains/1": two(table.Contains), "flatten/1": two(table.Flatten),
		"sort_keys/1": two(table.SortBy), "group_keys/1": two(table.GroupBy), "unique_keys/1": two(table.UniqueBy), "min_keys/1": two(table.MinBy), "max_keys/1": two(table.MaxBy),
		"sort/0": twice(table.SortBy), "group/0": twice(table.GroupBy), "unique/0": twice(table.UniqueBy), "min/0": twice(table.MinBy), "max/0": twice(table.MaxBy),
		"startswith/1": two(text.StartsWith), "endswith/1": two(text.EndsWith), "ltrimstr/1": two(text.CutPrefix), "rtrimstr/1": two(text.CutSuffix), "split/1": two(text.Split), "join/1": two(text.Join), "indices/1": two(text.Indices),
		"getpath/1": two(path.Get), "delpaths/1": two(path.Delete),
		"setpath/2": func(l []api.Value) (api.Value, api.Errno) { return path.Set(l[0], l[1], l[2]) },
	}
}
