package shape

import (
	"lychgate/api"
	"lychgate/syntax"
)

// fault is what the reader panics with, so that no step of it has to hand it on.
type fault struct {
	at int
	e  api.Errno
}

// failAt leaves the reading with an error at a node.
func failAt(n syntax.Node, e api.Errno) { panic(fault{n.At, e}) }

// read: the types of a tree, or the first fault, which stopped the reading.
func read(libs syntax.Node) (table Table, f fault) {
	defer func() {
		if r := recover(); r != nil {
			found, ok := r.(fault)
			if !ok {
				// No fault of the tree: hiding it would pass the tree off as read.
				panic(r)
			}
			f = found
		}
	}()
	r := &reader{numbers: map[string]int{}}
	for _, n := range libs.Kids {
		if n.Kind == syntax.Type {
			r.add(n)
		}
	}
	return r.table, fault{}
}

// reader holds the types that are read so far. A type may name earlier ones alone.
type reader struct {
	table   Table
	numbers map[string]int
}

// add puts a Type behind those that are there. What is asked of it is asked in the order in which its faults count.
func (r *reader) add(n syntax.Node) {
	if _, twice := r.numbers[n.Text]; twice {
		failAt(n, api.ErrTwice)
	}
	p := partsOf(n)
	if len(p.fields) > api.MaxFields {
		failAt(n, api.ErrMany)
	}
	t := Type{Name: n.Text, Sort: sortOf(p.sort.Text)}
	t.Fields = p.readFields(t.Sort)
	t.Of = r.of(p, t.Sort)
	t.Facts = p.readFacts(t)
	r.numbers[n.Text] = len(r.table)
	r.table = append(r.table, t)
}

// of: the number of what a type's Sort names, of a field or of a type; 0, if it names nothing.
func (r *reader) of(p parts, s Sort) int {
	name := kidOf(p.sort, 0).Text
	switch s {
	case Counted, Lock:
		field := p.number(name)
		if field == none {
			failAt(p.sort, api.ErrField)
		}
		return field
	case Guard:
		lock, ok := r.numbers[name]
		if !ok || r.table[lock].Sort != Lock {
			failAt(p.sort, api.ErrName)
		}
		if len(p.fields) > 0 || len(p.facts) > 0 {
			failAt(p.sort, api.ErrField)
		}
		return lock
	}
	return 0
}

func sortOf(text string) Sort {
	switch text {
	case "cell":
		return Cell
	case "counted":
		return Counted
	case "lock":
		return Lock
	case "guard":
		return Guard
	}
	return Own
}
