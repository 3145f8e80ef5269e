package state

import (
	"math"
	"testing"

	"lychgate/mem"
)

// TestP93NewMemory: what is written into an answer changes nothing, in the machine and in other answers.
func TestP93NewMemory(t *testing.T) {
	m := mustLink(t, "fn f(a: int, p: &t) { x = p[0]; y = p[1]; p[0] = x; }", "fn main() { p = new 2; p[0] = 1; p[1] = 2; fork w(p); f(3, p); } fn w(p: int) { f(4, p); }")
	x, same := New(m), New(m)
	for step := range 60 {
		want := textOf(same.Tell())
		wantTold(t, x, want)
		live := x.Live()
		for i := range live {
			live[i] = 99
		}
		_ = append(live[:0], 98)
		spoil(x.Tell())
		wantTold(t, x, want)
		x.Step(step / 5)
		same.Step(step / 5)
	}
	if x.End() == Running {
		t.Errorf("P9.2: %s is not at its end", textOf(x.Tell()))
	}
}

// spoil writes into all that was told, behind the lists' lengths too.
func spoil(told Told) {
	for i := range told.Threads {
		frames := told.Threads[i].Frames
		for k := range frames {
			for n := range frames[k].Vars {
				frames[k].Vars[n] = Var{"other", num(99)}
			}
			_ = append(frames[k].Vars, Var{"more", num(98)}, Var{"more", num(98)})
			frames[k] = Frame{Code: 9, At: 9, Into: "other"}
		}
		_ = append(frames, Frame{Code: 9}, Frame{Code: 9})
		told.Threads[i] = Thread{Busy: true, P: num(1)}
	}
	_ = append(told.Threads, Thread{}, Thread{})
	for i := range told.Blocks {
		b := told.Blocks[i]
		for k := range b.Cells {
			b.Cells[k], b.Readers[k], b.Writer[k] = num(99), 9, !b.Writer[k]
		}
		told.Blocks[i] = mem.Block{}
	}
}

// TestP93Lists: no two lists of one answer share memory.
func TestP93Lists(t *testing.T) {
	m := mustLink(t, "fn f(a: int, p: &t) { f(a, p); }", "fn main() { p = new 1; q = new 1; fork w(p); fork w(p); f(3, p); } fn w(p: int) { f(4, p); }")
	x := New(m)
	steps(x, 0, 0, 0, 0, 0, 0, 1, 1, 2, 2)
	want := textOf(x.Tell())
	told := x.Tell()
	for i := range told.Threads {
		frames := told.Threads[i].Frames
		for k := range frames {
			_ = append(frames[k].Vars, Var{"more", num(98)}, Var{"more", num(98)})
		}
		_ = append(frames, Frame{Code: 9}, Frame{Code: 9})
	}
	_ = append(told.Threads, Thread{}, Thread{})
	if got := textOf(told); got != want {
		t.Errorf("P9.3: an answer, into which was written behind its lists, is\n     %s\nwant %s", got, want)
	}
}

// TestApart: two machines have nothing to do with one another (P2).
func TestApart(t *testing.T) {
	m := mustLink(t, "fn f(p: &t) -> int { p[0] = 1; x = p[0]; return x; }", "fn main() { p = new 1; fork w(p); x = f(p); return x; } fn w(p: int) { y = new 3; }")
	x, y, z := New(m), New(m), Call(m, 0, mem.New(), ptr(1, 0))
	begun := textOf(y.Tell())
	wantTold(t, z, "Running | 0@0 p=*1.0 | ")
	run(x, 40)
	wantTold(t, x, "Done | -; - | [1][_ _ _]")
	wantResult(t, x, "1")
	wantTold(t, y, begun)
	wantResult(t, y, "")
	z.Step(0)
	wantTold(t, z, "Stuck Gone 0 | 0@0 p=*1.0 | ")
	wantTold(t, y, begun)
	run(y, 3)
	wantTold(t, y, "Running | 1@3 p=*1.0 / 0@0 p=*1.0 >x; 2@0 p=*1.0 | [_]")
	wantTold(t, x, "Done | -; - | [1][_ _ _]")
}

func TestP93Nil(t *testing.T) {
	var none *Machine
	for _, pick := range []int{0, 1, -1, math.MinInt, math.MaxInt} {
		none.Step(pick)
		if live := none.Live(); len(live) != 0 {
			t.Errorf("P9.3: Live of a nil machine is %v", live)
		}
		if end := none.End(); end != Done {
			t.Errorf("P9.3: End of a nil machine is %d", end)
		}
		if v, ok := none.Result(); ok || v != (mem.Value{}) {
			t.Errorf("P9.3: Result of a nil machine is %v, %v", v, ok)
		}
		if told := none.Tell(); !sameTold(told, Told{End: Done}) {
			t.Errorf("P9.3: Tell of a nil machine is %v", told)
		}
	}
}

// TestZeroMachine: no call of a machine that nobody began panics.
func TestZeroMachine(t *testing.T) {
	x := &Machine{}
	for _, pick := range []int{0, 1, -1, math.MinInt, math.MaxInt} {
		x.Step(pick)
		if len(x.Live()) != 0 || len(x.Tell().Threads) != 0 {
			t.Errorf("a machine that nobody began has threads: %s", textOf(x.Tell()))
		}
		wantResult(t, x, "")
	}
}

// TestOtherPanicsAreNoEnds: what is no end of a machine isn't told as one.
func TestOtherPanicsAreNoEnds(t *testing.T) {
	defer func() {
		if recover() == nil {
			t.Errorf("a step of a thread that there isn't was done")
		}
	}()
	New(mustLink(t, "", "fn main() { }")).step(1)
}

// TestNumbers: the ends have the chapter's order.
func TestNumbers(t *testing.T) {
	for i, end := range []End{Running, Done, Stuck, Aborted, Overflow, Full} {
		if int(end) != i {
			t.Errorf("the end %d has the number %d", i, end)
		}
	}
}
