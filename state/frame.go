package state

import (
	"slices"

	"lychgate/api"
	"lychgate/code"
	"lychgate/mem"
)

// find: where a variable stands; -1, if there is none of that name.
func (f *Frame) find(name string) int {
	return slices.IndexFunc(f.Vars, func(v Var) bool { return v.Name == name })
}

// set: a variable gets a value, and keeps the place at which it first got one.
func (f *Frame) set(name string, v mem.Value) {
	if i := f.find(name); i >= 0 {
		f.Vars[i].Value = v
		return
	}
	f.Vars = append(f.Vars, Var{Name: name, Value: v})
}

// value: the value of a term.
func (f *Frame) value(t code.Term) mem.Value {
	if t.Name == "" {
		return whole(t.Num)
	}
	i := f.find(t.Name)
	if i < 0 || f.Vars[i].Value.Kind == mem.Poison {
		stick(mem.Empty)
	}
	v := f.Vars[i].Value
	if t.Num == 0 {
		return v
	}
	return bounded(number(v) + t.Num)
}

// variable: the value of the variable that an instruction has as its Y.
func (f *Frame) variable(name string) mem.Value { return f.value(code.Term{Name: name}) }

func (f *Frame) values(terms []code.Term) []mem.Value {
	out := make([]mem.Value, len(terms))
	for i, t := range terms {
		out[i] = f.value(t)
	}
	return out
}

// numbers: the numbers that two terms are. That the second one has no value counts ahead of what the first one is.
func (f *Frame) numbers(a, b code.Term) (int64, int64) {
	v, w := f.value(a), f.value(b)
	return number(v), number(w)
}

func whole(n int64) mem.Value { return mem.Value{Kind: mem.Int, N: n} }

// number: the number that a value is.
func number(v mem.Value) int64 {
	if v.Kind != mem.Int {
		stick(mem.Type)
	}
	return v.N
}

// bounded: the value of a sum or a difference.
func bounded(n int64) mem.Value {
	if n > api.MaxNum || n < -api.MaxNum {
		stop(Overflow)
	}
	return whole(n)
}
