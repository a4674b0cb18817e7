package eval

import "ndjq/api"

// scope is that of one variable, one label or one parameter of a function. Scopes are not changed, so that several inner ones can lie in one.
type scope struct {
	outer *scope
	value api.Value // of a variable
	label *frame    // of a label: the frame of its OpLabel
	arg   *node     // of a parameter: the filter that was given for it
	home  *scope    // of a parameter: the scope of this filter
}

// withValue returns a scope of a variable in s.
func (s *scope) withValue(v api.Value) *scope {
	return &scope{outer: s, value: v}
}

// around returns the scope that lies the given number of scopes around s.
func (s *scope) around(hops int) *scope {
	for range hops {
		s = s.outer
	}
	return s
}
