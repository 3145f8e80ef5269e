package state

import (
	"math"
	"slices"
	"strings"
	"testing"

	"lychgate/mem"
)

// twoThreads: the thread 0 is at the body a, the thread 1 at the body b; p is a pointer to the cells 7, a pointer, Poison and 0.
func twoThreads(t *testing.T, a, b string) *Machine {
	t.Helper()
	memory := mem.New()
	memory.Alloc(4)
	put(memory, ptr(1, 0), num(7))
	put(memory, ptr(1, 1), ptr(1, 0))
	put(memory, ptr(1, 3), num(0))
	m := mustLink(t, "fn f(p: &t) { "+a+" } fn g(p: &t) { "+b+" }", "fn main(){ } fn u(p: int) { fork w(p); f(p); } fn w(p: int) { g(p); }")
	at, _, _ := m.Find("u")
	x := Call(m, at, memory, ptr(1, 0))
	steps(x, 0, 0, 1)
	return x
}

// TestP92TwoSteps: what a read or a write of a thread, that has begun, does to another thread, and what it lets be.
func TestP92TwoSteps(t *testing.T) {
	for _, c := range []struct {
		a, b  string
		picks []int
		why   mem.Stuck // of the thread 1, by its last step
	}{
		{"x = p[0];", "x = p[0];", []int{0, 1}, mem.Fine},
		{"x = p[0];", "x = p[0];", []int{0, 1, 1}, mem.Fine},
		{"x = p[0];", "x = p[0];", []int{0, 1, 0, 1}, mem.Fine},
		{"x = p[0];", "p[0] = 1;", []int{0, 1}, mem.Race},
		{"x = p[0];", "p[0] = 1;", []int{0, 0, 1, 1}, mem.Fine},
		{"p[0] = 1;", "x = p[0];", []int{0, 1}, mem.Race},
		{"p[0] = 1;", "x = p[0];", []int{0, 0, 1, 1}, mem.Fine},
		{"p[0] = 1;", "p[0] = 2;", []int{0, 1}, mem.Race},
		{"p[0] = 1;", "p[0] = 2;", []int{0, 0, 1, 1}, mem.Fine},
		{"p[0] = 1;", "p[1] = 2;", []int{0, 1, 1}, mem.Fine},
		{"p[0] = 1;", "x = p[1];", []int{0, 1, 1}, mem.Fine},
		{"x = p[2];", "x = p[2];", []int{0, 1, 1}, mem.Empty},
		{"p[2] = 1;", "x = p[2];", []int{0, 1}, mem.Race},
		{"p[2] = 1;", "x = p[2];", []int{0, 0, 1, 1}, mem.Fine},
		{"x = p[3];", "lock p[3];", []int{0, 1}, mem.Race},
		{"x = p[3];", "lock p[3];", []int{0, 0, 1}, mem.Fine},
		{"p[3] = 0;", "lock p[3];", []int{0, 1}, mem.Race},
		{"x = p[3];", "unlock p[3];", []int{0, 1}, mem.Race},
		{"p[3] = 0;", "unlock p[3];", []int{0, 1}, mem.Race},
		{"p[2] = 0;", "lock p[2];", []int{0, 1}, mem.Race},
		{"p[0] = 1;", "lock p[3];", []int{0, 1}, mem.Fine},
		{"x = p[0];", "free p;", []int{0, 1}, mem.Race},
		{"p[3] = 1;", "free p;", []int{0, 1}, mem.Race},
		{"x = p[0];", "free p;", []int{0, 0, 1}, mem.Fine},
		{"free p;", "x = p[0];", []int{0, 1}, mem.Gone},
		{"free p;", "free p;", []int{0, 1}, mem.Gone},
		{"lock p[3];", "unlock p[3];", []int{0, 1}, mem.Fine},
		{"lock p[3];", "x = p[3];", []int{0, 1, 1}, mem.Fine},
	} {
		x := twoThreads(t, c.a, c.b)
		last := len(c.picks) - 1
		steps(x, c.picks[:last]...)
		if x.End() != Running {
			t.Fatalf("P9.2: %s beside %s: %s too early", c.a, c.b, textOf(x.Tell()))
		}
		if c.why != mem.Fine {
			wantEnds(t, x, Stuck, c.why, 1)
		} else if x.Step(c.picks[last]); x.End() != Running {
			t.Errorf("P9.2: %s", textOf(x.Tell()))
		}
		if t.Failed() {
			t.Fatalf("%s beside %s", c.a, c.b)
		}
	}
}

// TestP92Between: what is told between the two steps of a write and of reads, while another thread goes on.
func TestP92Between(t *testing.T) {
	x := twoThreads(t, "i = 3; p[0] = i; i = 4;", "x = p[1]; y = p[3]; p[3] = 5;")
	const main = "3@2 p=*1.0 / "
	wantTold(t, x, "Running | "+main+"0@0 p=*1.0; 4@1 p=*1.0 / 1@0 p=*1.0 | [7 *1.0 _ 0]")
	for _, c := range []struct {
		pick int
		want string
	}{
		{0, main + "0@1 p=*1.0 i=3; 4@1 p=*1.0 / 1@0 p=*1.0 | [7 *1.0 _ 0]"},
		{0, main + "0@1 p=*1.0 i=3 busy(true *1.0 3); 4@1 p=*1.0 / 1@0 p=*1.0 | [7w *1.0 _ 0]"},
		{1, main + "0@1 p=*1.0 i=3 busy(true *1.0 3); 4@1 p=*1.0 / 1@0 p=*1.0 busy(true *1.1 _) | [7w *1.0r _ 0]"},
		{1, main + "0@1 p=*1.0 i=3 busy(true *1.0 3); 4@1 p=*1.0 / 1@1 p=*1.0 x=*1.0 | [7w *1.0 _ 0]"},
		{1, main + "0@1 p=*1.0 i=3 busy(true *1.0 3); 4@1 p=*1.0 / 1@1 p=*1.0 x=*1.0 busy(true *1.3 _) | [7w *1.0 _ 0r]"},
		{0, main + "0@2 p=*1.0 i=3; 4@1 p=*1.0 / 1@1 p=*1.0 x=*1.0 busy(true *1.3 _) | [3 *1.0 _ 0r]"},
		{0, main + "0@3 p=*1.0 i=4; 4@1 p=*1.0 / 1@1 p=*1.0 x=*1.0 busy(true *1.3 _) | [3 *1.0 _ 0r]"},
		{0, "3@2 p=*1.0; 4@1 p=*1.0 / 1@1 p=*1.0 x=*1.0 busy(true *1.3 _) | [3 *1.0 _ 0r]"},
		{0, "-; 4@1 p=*1.0 / 1@1 p=*1.0 x=*1.0 busy(true *1.3 _) | [3 *1.0 _ 0r]"},
		{0, "-; 4@1 p=*1.0 / 1@2 p=*1.0 x=*1.0 y=0 | [3 *1.0 _ 0]"},
		{0, "-; 4@1 p=*1.0 / 1@2 p=*1.0 x=*1.0 y=0 busy(true *1.3 5) | [3 *1.0 _ 0w]"},
		{0, "-; 4@1 p=*1.0 / 1@3 p=*1.0 x=*1.0 y=0 | [3 *1.0 _ 5]"},
		{0, "-; 4@1 p=*1.0 | [3 *1.0 _ 5]"},
	} {
		x.Step(c.pick)
		wantTold(t, x, "Running | "+c.want)
	}
	x.Step(0)
	wantTold(t, x, "Done | -; - | [3 *1.0 _ 5]")
	wantResult(t, x, "")
}

// TestP92Readers: as many read one cell as like; the first End takes one away alone.
func TestP92Readers(t *testing.T) {
	x := twoThreads(t, "x = p[0];", "x = p[0];")
	for _, c := range []struct {
		pick int
		want string
	}{{0, "[7r *1.0 _ 0]"}, {1, "[7rr *1.0 _ 0]"}, {0, "[7r *1.0 _ 0]"}, {1, "[7 *1.0 _ 0]"}} {
		x.Step(c.pick)
		if got := textOfBlock(x.Tell().Blocks[0]); got != c.want {
			t.Errorf("P9.2: behind the pick %d: %s, want %s", c.pick, got, c.want)
		}
	}
}

// TestP92Lock: a Lock that isn't had stays at its instruction, and is had when another thread has opened it.
func TestP92Lock(t *testing.T) {
	x := twoThreads(t, "lock p[3]; p[0] = 1; unlock p[3]; x = 1;", "lock p[3]; p[0] = 2; unlock p[3]; x = 1;")
	const main, forked = "3@2 p=*1.0 / ", "; 4@1 p=*1.0 / "
	for _, c := range []struct {
		pick int
		want string
	}{
		{0, main + "0@1 p=*1.0" + forked + "1@0 p=*1.0 | [7 *1.0 _ 1]"},
		{1, main + "0@1 p=*1.0" + forked + "1@0 p=*1.0 | [7 *1.0 _ 1]"},
		{0, main + "0@1 p=*1.0 busy(true *1.0 1)" + forked + "1@0 p=*1.0 | [7w *1.0 _ 1]"},
		{1, main + "0@1 p=*1.0 busy(true *1.0 1)" + forked + "1@0 p=*1.0 | [7w *1.0 _ 1]"},
		{0, main + "0@2 p=*1.0" + forked + "1@0 p=*1.0 | [1 *1.0 _ 1]"},
		{1, main + "0@2 p=*1.0" + forked + "1@0 p=*1.0 | [1 *1.0 _ 1]"},
		{0, main + "0@3 p=*1.0" + forked + "1@0 p=*1.0 | [1 *1.0 _ 0]"},
		{1, main + "0@3 p=*1.0" + forked + "1@1 p=*1.0 | [1 *1.0 _ 1]"},
		{1, main + "0@3 p=*1.0" + forked + "1@1 p=*1.0 busy(true *1.0 2) | [1w *1.0 _ 1]"},
		{0, main + "0@4 p=*1.0 x=1" + forked + "1@1 p=*1.0 busy(true *1.0 2) | [1w *1.0 _ 1]"},
		{1, main + "0@4 p=*1.0 x=1" + forked + "1@2 p=*1.0 | [2 *1.0 _ 1]"},
		{1, main + "0@4 p=*1.0 x=1" + forked + "1@3 p=*1.0 | [2 *1.0 _ 0]"},
	} {
		x.Step(c.pick)
		wantTold(t, x, "Running | "+c.want)
	}
}

// TestP92Ended: frames that end, with a value and without, with Into and without, of thread 0 and of another.
func TestP92Ended(t *testing.T) {
	const libs = "fn g(z: int) -> int { return z; } fn h() { } fn d(z: int) -> int { y = g(z); return y + 1; }"
	for _, c := range []struct {
		client string
		picks  []int
		want   string
		result string
	}{
		{"fn main() { x = g(4); }", []int{0, 0}, "Running | 3@1 x=4 | ", ""},
		{"fn main() { g(4); }", []int{0, 0}, "Running | 3@1 | ", ""},
		{"fn main() { x = h(); }", []int{0, 0}, "Running | 3@1 x=_ | ", ""},
		{"fn main() { h(); }", []int{0, 0}, "Running | 3@1 | ", ""},
		{"fn main() { x = h(); y = x; }", []int{0, 0, 0}, "Stuck Empty 0 | 3@1 x=_ | ", ""},
		{"fn main() { x = 1; x = h(); }", []int{0, 0, 0}, "Running | 3@2 x=_ | ", ""},
		{"fn main() { x = d(4); }", []int{0, 0}, "Running | 3@1 / 2@1 z=4 >x / 0@0 z=4 >y | ", ""},
		{"fn main() { x = d(4); }", []int{0, 0, 0, 0}, "Running | 3@1 x=5 | ", ""},
		{"fn main() { d(4); }", []int{0, 0, 0}, "Running | 3@1 / 2@1 z=4 y=4 | ", ""},
		{"fn main() -> int { return 5; }", []int{0}, "Done | - | ", "5"},
		{"fn main() -> int { x = g(4); return x; }", []int{0, 0, 0}, "Done | - | ", "4"},
		{"fn main() -> int { g(4); }", []int{0, 0, 0}, "Done | - | ", ""},
		// The thread 0 has ended, and another hasn't.
		{"fn main() { fork w(1); return 5; } fn w(z: int) { x = 2; return z; }", []int{0, 0}, "Running | -; 4@0 z=1 | ", "5"},
		{"fn main() { fork w(1); return 5; } fn w(z: int) { x = 2; return z; }", []int{0, 0, 0}, "Running | -; 4@1 z=1 x=2 | ", "5"},
		{"fn main() { fork w(1); return 5; } fn w(z: int) { x = 2; return z; }", []int{0, 0, 0, 0}, "Done | -; - | ", "5"},
		{"fn main() { fork w(1); } fn w(z: int) { x = 2; return z; }", []int{0, 0, 0, 0}, "Done | -; - | ", ""},
		// Another has, and the thread 0 hasn't; what it answers is nobody's.
		{"fn main() { fork w(1); x = 3; return 5; } fn w(z: int) { return z; }", []int{0, 1}, "Running | 3@1; - | ", ""},
		{"fn main() { fork w(1); x = 3; return 5; } fn w(z: int) { return z; }", []int{0, 1, 1, 1}, "Done | -; - | ", "5"},
		{"fn main() { fork w(1); x = 3; } fn w(z: int) { return z; }", []int{0, 1, 1, 1}, "Done | -; - | ", ""},
		// A frame of another thread gets what it called for.
		{"fn main() { fork w(1); } fn w(z: int) { x = g(z); y = h(); }", []int{0, 1, 1}, "Running | 3@1; 4@1 z=1 x=1 | ", ""},
		{"fn main() { fork w(1); } fn w(z: int) { x = g(z); y = h(); }", []int{0, 1, 1, 1, 1}, "Running | 3@1; 4@2 z=1 x=1 y=_ | ", ""},
		{"fn main() { fork w(1); } fn w(z: int) { x = g(z); y = h(); }", []int{0, 0, 0, 0}, "Running | -; 4@1 z=1 x=1 | ", ""},
		// A thread that a thread has forked that has ended.
		{"fn main() { fork w(1); } fn w(z: int) { fork w(z + 1); }", []int{0, 0, 0, 0, 0}, "Running | -; -; 4@1 z=2; 4@0 z=3 | ", ""},
		// The value of a Ret is looked at ahead: the frame hasn't ended.
		{"fn main() -> int { return x; }", []int{0}, "Stuck Empty 0 | 3@0 | ", ""},
		{"fn main() -> int { x = 1099511627776; return x + 1; }", []int{0, 0}, "Overflow | 3@1 x=1099511627776 | ", ""},
		{"fn main() { fork w(1); return 5; } fn w(z: int) { return x; }", []int{0, 0, 0}, "Stuck Empty 1 | -; 4@0 z=1 | ", "5"},
	} {
		x := New(mustLink(t, libs, c.client))
		steps(x, c.picks...)
		wantTold(t, x, c.want)
		wantResult(t, x, c.result)
		if t.Failed() {
			t.Fatalf("%s, behind the picks %v", c.client, c.picks)
		}
	}
}

// TestP93Result: once there is a result, it stays to any end.
func TestP93Result(t *testing.T) {
	for body, end := range map[string]string{"": "Done | -; -", "abort;": "Aborted | -; 1@0 z=1", "x = y;": "Stuck Empty 1 | -; 1@0 z=1", "x = new 257;": "Full | -; 1@0 z=1", "x = z + 1099511627776;": "Overflow | -; 1@0 z=1"} {
		x := New(mustLink(t, "", "fn main() { fork w(1); return -6; } fn w(z: int) { "+body+" }"))
		wantResult(t, x, "")
		x.Step(0)
		wantResult(t, x, "")
		steps(x, 0, 0, 0)
		wantTold(t, x, end+" | ")
		wantResult(t, x, "-6")
	}
	// Of a function that is called, a pointer.
	m := mustLink(t, "fn f(p: &t) -> own t { return p; } fn e(p: &t) -> own t { x = f(p); }", "fn main() { }")
	x := Call(m, 0, mem.New(), ptr(3, 4))
	x.Step(0)
	wantTold(t, x, "Done | - | ")
	wantResult(t, x, "*3.4")
	// What a frame within answers isn't the machine's.
	x = Call(m, 1, mem.New(), ptr(3, 4))
	steps(x, 0, 0, 0)
	wantTold(t, x, "Done | - | ")
	wantResult(t, x, "")
}

// pickMachine has six threads, of which the second and the fifth have ended; each of the others is in an endless loop of two steps.
func pickMachine(t *testing.T) *Machine {
	t.Helper()
	const loop = "while 0 < 1 { }"
	x := New(mustLink(t, "", "fn main() { fork d(); fork w(); fork w(); fork d(); fork w(); "+loop+" } fn w() { "+loop+" } fn d() { }"))
	steps(x, 0, 0, 0, 0, 0, 4, 1)
	if live := x.Live(); !slices.Equal(live, []int{0, 2, 3, 5}) {
		t.Fatalf("P9.3: Live is %v", live)
	}
	return x
}

func TestP92Picks(t *testing.T) {
	for pick, want := range map[int]int{
		0: 0, 1: 2, 2: 3, 3: 5, 4: 0, 5: 2, 6: 3, 7: 5, 8: 0, 4001: 2,
		-1: 0, -2: 2, -3: 3, -4: 5, -5: 0, -6: 2, -7: 3, -8: 5, -9: 0, -4002: 2,
		math.MaxInt: 5, math.MaxInt - 1: 3, math.MaxInt - 3: 0, math.MinInt: 5, math.MinInt + 1: 3, math.MinInt + 3: 0,
	} {
		x := pickMachine(t)
		before := x.Tell().Threads
		x.Step(pick)
		for number, thread := range x.Tell().Threads {
			if moved := textOfThread(thread) != textOfThread(before[number]); moved != (number == want) {
				t.Errorf("P9.2: the pick %d: the thread %d was picked: %v; want %d", pick, number, moved, want)
			}
		}
	}
	// Of three threads, so that the greatest and the least int have another remainder.
	for pick, want := range map[int]int{math.MaxInt: 1, math.MinInt: 1, math.MaxInt - 1: 0, math.MinInt + 2: 2, -3: 2, -4: 0, 5: 2} {
		x := New(mustLink(t, "", "fn main() { fork w(); fork w(); while 0 < 1 { } } fn w() { while 0 < 1 { } }"))
		steps(x, 0, 0)
		before := x.Tell().Threads
		x.Step(pick)
		for number, thread := range x.Tell().Threads {
			if moved := textOfThread(thread) != textOfThread(before[number]); moved != (number == want) {
				t.Errorf("P9.2: of three threads, the pick %d: the thread %d was picked: %v; want %d", pick, number, moved, want)
			}
		}
	}
}

// TestP92OnePick: with one thread, every pick is that thread's.
func TestP92OnePick(t *testing.T) {
	for _, pick := range []int{0, 1, 7, -1, -2, math.MaxInt, math.MinInt} {
		x := New(mustLink(t, "", "fn main() { x = 1; }"))
		x.Step(pick)
		wantTold(t, x, "Running | 0@1 x=1 | ")
		x.Step(pick)
		wantTold(t, x, "Done | - | ")
	}
}

// TestP92BehindEnd: a step behind the end does nothing, whoever is picked.
func TestP92BehindEnd(t *testing.T) {
	for body, end := range map[string]string{"": "Done", "abort;": "Aborted", "x = y;": "Stuck Empty 1", "x = new 257;": "Full", "y = 1099511627776; x = y + 1;": "Overflow"} {
		x := New(mustLink(t, "", "fn main() { p = new 1; fork w(); return 5; } fn w() { "+body+" }"))
		for range 9 {
			x.Step(1)
		}
		want := textOf(x.Tell())
		if !strings.HasPrefix(want, end) {
			t.Fatalf("P9.2: %s: %s", body, want)
		}
		result, has := x.Result()
		for _, pick := range []int{0, 1, 2, -1, -2, math.MinInt, math.MaxInt} {
			x.Step(pick)
			wantTold(t, x, want)
			if v, ok := x.Result(); v != result || ok != has {
				t.Errorf("P9.2: a step behind the end %s has made a result %v, %v", end, v, ok)
			}
		}
	}
}
