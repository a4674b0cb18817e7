package eval

import (
	"ndjq/api"
	"ndjq/value"
)

// item is a value and, in the path mode, its path.
type item struct {
	value api.Value
	path  *list // nil in the ordinary mode
}

// plain returns the item in the ordinary mode.
func (x item) plain() item {
	return item{value: x.value}
}

// like returns the value v with the empty path if x has a path.
func (x item) like(v api.Value) item {
	if x.path == nil {
		return item{value: v}
	}
	return item{value: v, path: &list{}}
}

// extended returns the item with the value v and the path of x, if it has one, extended by the steps, and whether this path is valid.
func (x item) extended(v api.Value, steps ...api.Value) (item, bool) {
	out := item{value: v, path: x.path}
	if x.path == nil {
		return out, true
	}
	for _, s := range steps {
		longer, ok := out.path.with(s)
		if !ok {
			return item{}, false
		}
		out.path = longer
	}
	return out, true
}

// list is an array that grows at its end. Lists are not changed, so that longer ones can share a beginning.
type list struct {
	front  *list     // the list without its last element, nil for the empty one
	last   api.Value // the last element
	extent           // of all elements
}

// with returns the list with v behind its elements, and whether it is valid as an array.
func (l *list) with(v api.Value) (*list, bool) {
	longer := &list{front: l, last: v, extent: l.extent}
	longer.elems++
	longer.add(v, 1)
	return longer, longer.fits()
}

// array returns the array of the elements.
func (l *list) array() api.Value {
	elems := make([]api.Value, l.elems)
	for ; l.front != nil; l = l.front {
		elems[l.elems-1] = l.last
	}
	return api.Value{Kind: api.Array, Elems: elems}
}

// extent is what the limits of an array are about. It is counted as the array grows: value.Valid would examine all of it for each element.
type extent struct {
	elems, nodes, bytes, depth int
}

// add counts v, which lies within level arrays and objects.
func (e *extent) add(v api.Value, level int) {
	e.nodes++
	e.bytes += len(v.Str)
	if v.Kind == api.Array || v.Kind == api.Object {
		level++
		e.depth = max(e.depth, level)
	}
	for _, key := range v.Keys {
		e.bytes += len(key)
	}
	for _, elem := range v.Elems {
		e.add(elem, level)
	}
}

// fits reports whether an array with this extent of its elements, which are valid, is valid.
func (e *extent) fits() bool {
	// The array itself is a node, too.
	return e.elems <= api.MaxElems && e.nodes < api.MaxNodes && e.bytes <= api.MaxBytes && e.depth <= api.MaxDepth
}

// place returns the step to the element with the given index of an array or an object.
func place(v api.Value, index int) api.Value {
	if v.Kind == api.Object {
		return api.Value{Kind: api.String, Str: v.Keys[index]}
	}
	return value.Num(int64(index))
}
