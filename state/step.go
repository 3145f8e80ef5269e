package state

import (
	"lychgate/code"
	"lychgate/mem"
)

// ending is what a step panics with where it leaves the machine at an end, so that nothing of the step that would come behind is done.
type ending struct {
	end End
	why mem.Stuck
}

func stop(end End) { panic(ending{end: end}) }

func stick(why mem.Stuck) { panic(ending{end: Stuck, why: why}) }

// must: what the memory was asked for is done, or the machine is stuck.
func must(why mem.Stuck) {
	if why != mem.Fine {
		stick(why)
	}
}

// step does a step of a thread, and takes down the end at which it leaves the machine.
func (x *Machine) step(number int) {
	defer func() {
		if r := recover(); r != nil {
			e, ok := r.(ending)
			if !ok {
				// No end of the machine: hiding it would pass the step off as done.
				panic(r)
			}
			x.leave(number, e)
		}
	}()
	t := x.threads[number]
	f := t.last()
	f.At = x.do(t, f)
}

func (x *Machine) leave(number int, e ending) {
	x.end, x.why = e.end, e.why
	if e.end == Stuck {
		x.stuck = number
	}
}

// instr: the next instruction of a frame. Behind a list's end, where no code that layer 7 laid out comes to, it is as if the list ended with a Ret as those do: so no step panics.
func (x *Machine) instr(f *Frame) code.Instr {
	list := x.image.Codes[f.Code].List
	if f.At < 0 || f.At >= len(list) {
		return code.Instr{Op: code.Ret}
	}
	return list[f.At]
}

// do does the next instruction of a thread's last frame: the number of the one that comes next in that frame.
func (x *Machine) do(t *thread, f *Frame) int {
	i := x.instr(f)
	next := f.At + 1
	switch i.Op {
	case code.Set, code.Sum, code.Less, code.New, code.Array:
		f.set(i.X, x.made(f, i))
	case code.Load, code.Store:
		if t.busy {
			x.endAccess(t, f, i)
		} else {
			x.beginAccess(t, f, i)
			next = f.At
		}
	case code.Free:
		must(x.memory.Free(f.variable(i.Y)))
	case code.Lock:
		if !x.lock(f, i) {
			next = f.At
		}
	case code.Unlock:
		must(x.memory.Unlock(lockOf(f, i)))
	case code.Branch:
		if !holds(f, i) {
			next = i.To
		}
	case code.Jump:
		next = i.To
	case code.Call:
		x.call(t, f, i)
	case code.Fork:
		x.fork(f, i)
	case code.Ret:
		x.ret(t, f, i)
	case code.Abort:
		stop(Aborted)
	}
	return next
}
