package link

import (
	"lychgate/api"
	"lychgate/code"
	"lychgate/syntax"
)

// linker is an image in the making. A call may stand ahead of its function, so that all functions are added before any of them is checked.
type linker struct {
	codes   []code.Code
	libs    int
	numbers map[string]int
}

// add puts a tree's functions behind those that are there; else it tells the place of the first one whose name is there already.
func (l *linker) add(tree syntax.Node) (int, api.Errno) {
	for _, fn := range tree.Kids {
		if fn.Kind != syntax.Fn {
			continue
		}
		if _, twice := l.numbers[fn.Text]; twice {
			return fn.At, api.ErrTwice
		}
		l.numbers[fn.Text] = len(l.codes)
		l.codes = append(l.codes, code.Lower(fn))
	}
	return 0, api.OK
}

// check: the place of a function's first instruction that can't be linked.
func (l *linker) check(c code.Code) (int, api.Errno) {
	for _, i := range c.List {
		if e := l.resolve(i); e != api.OK {
			return i.At, e
		}
	}
	return 0, api.OK
}

// resolve: what keeps an instruction from being linked. Only libraries are called, and only clients are forked.
func (l *linker) resolve(i code.Instr) api.Errno {
	if i.Op != code.Call && i.Op != code.Fork {
		return api.OK
	}
	number, ok := l.numbers[i.Y]
	if !ok || l.isLib(number) != (i.Op == code.Call) {
		return api.ErrName
	}
	if len(l.codes[number].Params) != len(i.Args) {
		return api.ErrArity
	}
	return api.OK
}

func (l *linker) isLib(number int) bool { return number < l.libs }

// main: the number of the client's main; false, if it has none that can be begun without arguments.
func (l *linker) main() (int, bool) {
	number, ok := l.numbers["main"]
	if !ok || l.isLib(number) || len(l.codes[number].Params) > 0 {
		return 0, false
	}
	return number, true
}
