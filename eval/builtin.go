package eval

import (
	"ndjq/api"
	"ndjq/arith"
	"ndjq/path"
	"ndjq/table"
	"ndjq/text"
	"ndjq/value"
)

// function is a builtin that is a function of the input and the values of its parameters.
type function func(v api.Value, args []api.Value) (api.Value, api.Errno)

// builtin returns the builtin with the given name and number of parameters, or nil if there is none.
func builtin(name string, params int) function {
	switch {
	case params == 0:
		if g := ofInput(name); g != nil {
			return func(v api.Value, _ []api.Value) (api.Value, api.Errno) { return g(v) }
		}
	case params == 1:
		if g := ofParameter(name); g != nil {
			return func(v api.Value, args []api.Value) (api.Value, api.Errno) { return g(v, args[0]) }
		}
	case params == 2 && name == "setpath":
		return func(v api.Value, args []api.Value) (api.Value, api.Errno) { return path.Set(v, args[0], args[1]) }
	}
	return nil
}

// ofInput returns the builtin without parameters that has the given name, or nil.
func ofInput(name string) func(api.Value) (api.Value, api.Errno) {
	return map[string]func(api.Value) (api.Value, api.Errno){
		"not":            not,
		"type":           typeName,
		"length":         table.Length,
		"keys":           table.Keys,
		"elements":       table.Values,
		"add":            table.Add,
		"any":            table.Any,
		"all":            table.All,
		"reverse":        table.Reverse,
		"to_entries":     table.ToEntries,
		"from_entries":   table.FromEntries,
		"transpose":      table.Transpose,
		"explode":        text.Explode,
		"implode":        text.Implode,
		"ascii_downcase": text.Lower,
		"ascii_upcase":   text.Upper,
		"trim":           text.Trim,
		"tostring":       text.ToString,
		"tonumber":       text.ToNumber,
		"tojson":         text.ToJSON,
		"fromjson":       text.FromJSON,
		"sort":           byItself(table.SortBy),
		"group":          byItself(table.GroupBy),
		"unique":         byItself(table.UniqueBy),
		"min":            byItself(table.MinBy),
		"max":            byItself(table.MaxBy),
	}[name]
}

// ofParameter returns the builtin with one parameter that has the given name, or nil.
func ofParameter(name string) func(v, w api.Value) (api.Value, api.Errno) {
	return map[string]func(v, w api.Value) (api.Value, api.Errno){
		"has":         table.Has,
		"contains":    table.Contains,
		"flatten":     table.Flatten,
		"sort_keys":   table.SortBy,
		"group_keys":  table.GroupBy,
		"unique_keys": table.UniqueBy,
		"min_keys":    table.MinBy,
		"max_keys":    table.MaxBy,
		"startswith":  text.StartsWith,
		"endswith":    text.EndsWith,
		"ltrimstr":    text.CutPrefix,
		"rtrimstr":    text.CutSuffix,
		"split":       text.Split,
		"join":        text.Join,
		"indices":     text.Indices,
		"getpath":     path.Get,
		"delpaths":    path.Delete,
	}[name]
}

func not(v api.Value) (api.Value, api.Errno) {
	return value.Bool(!truthy(v)), api.OK
}

func typeName(v api.Value) (api.Value, api.Errno) {
	return value.Str(value.TypeName(v))
}

// byItself returns f with the elements of an array as their own keys.
func byItself(f func(v, keys api.Value) (api.Value, api.Errno)) func(api.Value) (api.Value, api.Errno) {
	return func(v api.Value) (api.Value, api.Errno) { return f(v, v) }
}

// truthy is value.Truthy for a value that is known to be valid: that one examines all of it.
func truthy(v api.Value) bool {
	return v.Kind != api.Null && v.Kind != api.False
}

// message returns the error value of the error of another layer.
func message(e api.Errno) api.Value {
	return api.Value{Kind: api.String, Str: arith.Message(e)}
}
