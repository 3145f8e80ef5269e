package sign

import (
	"slices"

	"lychgate/api"
	"lychgate/shape"
	"lychgate/syntax"
)

// reader reads Fns over a table of types. It has the types' numbers by their names, as many Fns may name types of a long table.
type reader struct {
	table   shape.Table
	numbers map[string]int
}

func newReader(t shape.Table) reader {
	numbers := make(map[string]int, len(t))
	// From the last one on, so that of types with one name the first one stays: it is the one that shape's Find tells.
	for i, of := range slices.Backward(t) {
		numbers[of.Name] = i
	}
	return reader{t, numbers}
}

// sig: what a Fn takes and gives; else its first fault, with the place. What is asked of it is asked in the order in which its faults count.
func (r reader) sig(fn syntax.Node) (Sig, int, api.Errno) {
	params, result := partsOf(fn)
	if len(params) > api.MaxParams {
		return Sig{}, fn.At, api.ErrMany
	}
	s := Sig{Name: fn.Text}
	for _, n := range params {
		p, at, e := r.param(n, s.Params)
		if e != api.OK {
			return Sig{}, at, e
		}
		s.Params = append(s.Params, p)
	}
	ret, e := r.handed(result)
	if e != api.OK {
		return Sig{}, result.At, e
	}
	s.Ret = ret
	return s, 0, api.OK
}

// param: what a Param says that stands behind these earlier ones; else its first fault, with the place.
func (r reader) param(n syntax.Node, earlier []Param) (Param, int, api.Errno) {
	if slices.ContainsFunc(earlier, func(other Param) bool { return other.Name == n.Text }) {
		return Param{}, n.At, api.ErrTwice
	}
	mode := kidOf(n, 0)
	p, e := r.handed(mode)
	if e == api.OK && r.clashes(p, earlier) {
		e = api.ErrParam
	}
	if e != api.OK {
		return Param{}, mode.At, e
	}
	p.Name = n.Text
	return p, 0, api.OK
}

// handed: what a Mode says, without a Name. ErrName, if it names a type that isn't there.
func (r reader) handed(mode syntax.Node) (Param, api.Errno) {
	m := modeOf(mode.Text)
	if !m.namesType() {
		return Param{Mode: m}, api.OK
	}
	number, ok := r.numbers[kidOf(mode, 0).Text]
	if !ok {
		return Param{}, api.ErrName
	}
	return Param{Mode: m, Type: number}, api.OK
}

// clashes: does a Param name a type of another sort than own that an earlier one names too? The two could be one and the same value then.
func (r reader) clashes(p Param, earlier []Param) bool {
	if !p.Mode.namesType() || r.table[p.Type].Sort == shape.Own {
		return false
	}
	// An Int has the Type 0, but names no type.
	return slices.ContainsFunc(earlier, func(other Param) bool { return other.Mode.namesType() && other.Type == p.Type })
}

// namesType: does a type stand beside the mode?
func (m Mode) namesType() bool { return m == Own || m == Ref || m == Mut }

func modeOf(text string) Mode {
	switch text {
	case "int":
		return Int
	case "own":
		return Own
	case "&":
		return Ref
	case "&mut":
		return Mut
	}
	return None
}

// partsOf: the Params of a Fn, and the Mode of its result. They may lack in trees made by hand, so they are told apart by their kinds, not by where they stand.
func partsOf(fn syntax.Node) (params []syntax.Node, result syntax.Node) {
	for _, kid := range fn.Kids {
		switch kid.Kind {
		case syntax.Param:
			params = append(params, kid)
		case syntax.Mode:
			result = kid
		}
	}
	return params, result
}

// kidOf: the kid of that number. Trees made by hand may lack it: the zero Node in its place keeps every call from a panic.
func kidOf(n syntax.Node, i int) syntax.Node {
	if i >= len(n.Kids) {
		return syntax.Node{}
	}
	return n.Kids[i]
}
