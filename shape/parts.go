package shape

import (
	"slices"

	"lychgate/api"
	"lychgate/diff"
	"lychgate/syntax"
)

// none stands for a field where there is none, and for the size of what is no array.
const none = -1

// parts is what a Type's node is made of. A list may lack in trees made by hand, so they are told apart by their kinds, not by where they stand.
type parts struct {
	sort          syntax.Node
	fields, facts []syntax.Node
}

func partsOf(n syntax.Node) parts {
	var p parts
	for _, kid := range n.Kids {
		switch kid.Kind {
		case syntax.Sort:
			p.sort = kid
		case syntax.Field:
			p.fields = append(p.fields, kid)
		case syntax.Fact:
			p.facts = append(p.facts, kid)
		}
	}
	return p
}

// kidOf: the kid of that number. Trees made by hand may lack it: the zero Node in its place keeps every call from a panic.
func kidOf(n syntax.Node, i int) syntax.Node {
	if i >= len(n.Kids) {
		return syntax.Node{}
	}
	return n.Kids[i]
}

func isArray(field syntax.Node) bool { return len(field.Kids) > 0 }

// find: which of the fields has a name first; none, if no one has it.
func find(fields []syntax.Node, name string) int {
	return slices.IndexFunc(fields, func(f syntax.Node) bool { return f.Text == name })
}

// number: the field of that name, if it is a number; else none.
func (p parts) number(name string) int {
	i := find(p.fields, name)
	if i == none || isArray(p.fields[i]) {
		return none
	}
	return i
}

func (p parts) readFields(s Sort) []Field {
	fields := make([]Field, len(p.fields))
	for i, n := range p.fields {
		if find(p.fields[:i], n.Text) != none {
			failAt(n, api.ErrTwice)
		}
		fields[i] = Field{Name: n.Text, Size: none}
		if isArray(n) {
			fields[i].Size = p.sizeOf(n, s)
		}
	}
	return fields
}

// sizeOf: the field that tells how long an array of a type of that sort is. It may stand ahead of the array or behind it.
func (p parts) sizeOf(array syntax.Node, s Sort) int {
	size := p.number(kidOf(array, 0).Text)
	if s != Own || size == none {
		failAt(array, api.ErrField)
	}
	return size
}

// readFacts: the facts of a type whose Sort and Of are known.
func (p parts) readFacts(t Type) []diff.Leq {
	var facts []diff.Leq
	for _, n := range p.facts {
		left, right := kidOf(n, 0), kidOf(n, 1)
		a, b := p.variable(left, t), p.variable(right, t)
		if a == none || b == none {
			failAt(n, api.ErrFact)
		}
		facts = append(facts, Facts(n.Text, a, b, left.Num, right.Num)...)
	}
	return facts
}

// variable: that of a Term in a fact; none, if no fact may have its name.
func (p parts) variable(term syntax.Node, t Type) int {
	if term.Text == "" {
		return 0
	}
	field := p.number(term.Text)
	if field == none || isKept(t, field) {
		return none
	}
	return field + 1
}

// isKept: is a field the one that counts or locks, of which facts say nothing?
func isKept(t Type, field int) bool {
	return (t.Sort == Counted || t.Sort == Lock) && field == t.Of
}
