package state

import (
	"lychgate/api"
	"lychgate/code"
	"lychgate/mem"
)

// maxFrames is how many frames a thread has at most.
const maxFrames = 64

// made: the value that X gets by an instruction that reads no cell.
func (x *Machine) made(f *Frame, i code.Instr) mem.Value {
	switch i.Op {
	case code.Sum:
		a, b := f.numbers(i.A, i.B)
		return bounded(a + b)
	case code.Less:
		a, b := f.numbers(i.A, i.B)
		return bounded(a - b)
	case code.New:
		return x.alloc(i.A.Num)
	case code.Array:
		return x.array(number(f.value(i.A)))
	}
	return f.value(i.A)
}

func (x *Machine) alloc(n int64) mem.Value {
	p, ok := x.memory.Alloc(n)
	if !ok {
		stop(Full)
	}
	return p
}

// array: a new block whose cells hold 0.
func (x *Machine) array(n int64) mem.Value {
	p := x.alloc(n)
	for at := range n {
		cell := raised(p, at)
		must(x.memory.Begin(cell, true))
		_, why := x.memory.End(cell, true, whole(0))
		must(why)
	}
	return p
}

func raised(p mem.Value, by int64) mem.Value {
	p.N += by
	return p
}

// beginAccess: the first step of a Load or Store. All is looked at ahead of the memory, as a machine that is stuck by a value has begun nothing there.
func (x *Machine) beginAccess(t *thread, f *Frame, i code.Instr) {
	p := f.variable(i.Y)
	if p.Kind != mem.Ptr {
		stick(mem.Type)
	}
	p = raised(p, number(f.value(i.A)))
	var v mem.Value
	write := i.Op == code.Store
	if write {
		v = f.value(i.B)
	}
	must(x.memory.Begin(p, write))
	t.busy, t.p, t.v = true, p, v
}

// endAccess: the second step of a Load or Store.
func (x *Machine) endAccess(t *thread, f *Frame, i code.Instr) {
	v, why := x.memory.End(t.p, i.Op == code.Store, t.v)
	must(why)
	t.busy, t.p, t.v = false, mem.Value{}, mem.Value{}
	if i.Op == code.Load {
		f.set(i.X, v)
	}
}

// lockOf: the cell that a Lock or Unlock names. Of what is no pointer the memory tells so, whatever the number in it.
func lockOf(f *Frame, i code.Instr) mem.Value { return raised(f.variable(i.Y), i.A.Num) }

// lock: whether the lock is had.
func (x *Machine) lock(f *Frame, i code.Instr) bool {
	had, why := x.memory.Lock(lockOf(f, i))
	must(why)
	return had
}

// holds: whether what a Branch asks holds.
func holds(f *Frame, i code.Instr) bool {
	a, b := f.numbers(i.A, i.B)
	switch i.X {
	case "<":
		return a < b
	case "<=":
		return a <= b
	}
	return i.X == "==" && a == b
}

// callee: the number of the function that a Call or Fork names. That it is there, layer 8 has seen to.
func (x *Machine) callee(i code.Instr) int {
	number, _, _ := x.image.Find(i.Y)
	return number
}

func (x *Machine) call(t *thread, f *Frame, i code.Instr) {
	values := f.values(i.Args)
	if len(t.frames) >= maxFrames {
		stop(Full)
	}
	t.push(x.enter(x.callee(i), values, i.X))
}

func (x *Machine) fork(f *Frame, i code.Instr) {
	values := f.values(i.Args)
	if len(x.threads) >= api.MaxThread {
		stop(Full)
	}
	x.start(x.enter(x.callee(i), values, ""))
}

// ret ends a thread's last frame f. Its value goes into the frame below; that of the first frame of all is the machine's.
func (x *Machine) ret(t *thread, f *Frame, i code.Instr) {
	var v mem.Value
	if i.Has {
		v = f.value(i.A)
	}
	t.pop()
	switch {
	case len(t.frames) > 0 && f.Into != "":
		t.last().set(f.Into, v)
	case len(t.frames) == 0 && t == x.threads[0] && i.Has:
		x.result, x.hasResult = v, true
	}
	if len(x.Live()) == 0 {
		stop(Done)
	}
}
