package state

import (
	"math"
	"strconv"
	"strings"
	"testing"

	"lychgate/api"
	"lychgate/mem"
)

// reasons: of statements about n (an Int), p (a pointer to the first of the cells 7, a pointer, Poison), in (to its second one), out (behind them), gone, o (that holds Poison), none (that there isn't) and m (the greatest number), why they can't be done.
func reasons() map[string]string {
	return map[string]string{
		// No such variable, and one that holds Poison.
		"x = none;": "Empty", "x = o;": "Empty", "x = &none;": "Empty", "x = &mut o;": "Empty", "x = none + 1;": "Empty", "x = o - 1;": "Empty", "x = none + 0;": "Empty", "x = x;": "Empty",
		"x = array none;": "Empty", "x = array o;": "Empty", "free none;": "Empty", "free o;": "Empty", "lock none[0];": "Empty", "lock o[1];": "Empty", "unlock none[0];": "Empty", "unlock o[0];": "Empty",
		"return none;": "Empty", "return o;": "Empty", "return o + 1;": "Empty", "g(none);": "Empty", "x = g(o);": "Empty", "fork w(none);": "Empty", "fork w(o + 1);": "Empty",
		// What should be an Int or a pointer, and isn't.
		"x = p + 1;": "Type", "x = p - 1;": "Type", "x = n + p;": "Type", "x = p + n;": "Type", "x = p - p;": "Type", "x = n - p;": "Type", "x = array p;": "Type", "return p + 1;": "Type", "g(p + 1);": "Type", "fork w(p - 1);": "Type",
		"if p < n { }": "Type", "if n <= p { }": "Type", "while p == p { }": "Type", "if p + 1 < n { }": "Type", "free n;": "Type", "lock n[0];": "Type", "unlock n[0];": "Type", "lock n[1099511627776];": "Type",
		// Of Sum, Less and Branch: both values, then both Kinds.
		"x = p + none;": "Empty", "x = p + o;": "Empty", "x = none + p;": "Empty", "x = o - p;": "Empty", "x = p - none;": "Empty", "x = none - o;": "Empty",
		"if p < none { }": "Empty", "if none < p { }": "Empty", "if o == p { }": "Empty", "if p <= o { }": "Empty", "while p < o + 1 { }": "Empty",
		"if p + 1 < none { }": "Type", "if none < p + 1 { }": "Empty", "if p < p + 1 { }": "Type", "if m + 1 < none { }": "Overflow", "if none < m + 1 { }": "Empty", "if p < m + 1 { }": "Overflow", "if m + 1 < p { }": "Overflow",
		"if p + 1 < m + 1 { }": "Type", "if m + 1 < p + 1 { }": "Overflow", "x = m + m;": "Overflow",
		// Of Load: Y's value and Kind, A's value and Kind, then the memory.
		"x = none[none];": "Empty", "x = none[p + 1];": "Empty", "x = none[p];": "Empty", "x = none[m + 1];": "Empty", "x = o[p + 1];": "Empty", "x = n[none];": "Type", "x = n[o];": "Type", "x = n[m + 1];": "Type", "x = n[0];": "Type",
		"x = p[none];": "Empty", "x = p[o];": "Empty", "x = p[p];": "Type", "x = p[p + 1];": "Type", "x = p[m + 1];": "Overflow", "x = gone[none];": "Empty", "x = gone[p];": "Type", "x = gone[m + 1];": "Overflow", "x = out[p];": "Type",
		"x = gone[0];": "Gone", "x = gone[9];": "Gone", "x = out[0];": "Bounds", "x = p[3];": "Bounds", "x = p[-1];": "Bounds", "x = in[2];": "Bounds", "x = p[m];": "Bounds",
		// Of Store B's value besides.
		"none[p] = p + 1;": "Empty", "o[none] = m + 1;": "Empty", "n[none] = none;": "Type", "n[m + 1] = none;": "Type", "n[0] = m + 1;": "Type", "p[none] = m + 1;": "Empty", "p[o] = p + 1;": "Empty", "p[m + 1] = none;": "Overflow", "p[m + 1] = p + 1;": "Overflow",
		"p[p] = none;": "Type", "p[p] = m + 1;": "Type", "p[p + 1] = none;": "Type", "p[0] = none;": "Empty", "p[0] = o;": "Empty", "p[0] = p + 1;": "Type", "p[0] = m + 1;": "Overflow", "p[9] = none;": "Empty", "p[9] = o + 1;": "Empty",
		"gone[0] = none;": "Empty", "gone[0] = p + 1;": "Type", "gone[0] = m + 1;": "Overflow", "out[0] = none;": "Empty", "gone[0] = 1;": "Gone", "gone[9] = p;": "Gone", "out[0] = 1;": "Bounds", "p[3] = p;": "Bounds", "p[-1] = 1;": "Bounds",
		// Of Free, Lock and Unlock the memory's reasons.
		"free gone;": "Gone", "free in;": "Inside", "free out;": "Inside", "lock gone[0];": "Gone", "unlock gone[0];": "Gone", "lock p[3];": "Bounds", "unlock out[0];": "Bounds", "lock in[2];": "Bounds", "unlock in[1099511627776];": "Bounds",
		"lock p[1];": "Type", "unlock p[1];": "Type", "lock in[0];": "Type", "lock p[2];": "Empty", "unlock p[2];": "Empty", "unlock in[1];": "Empty",
		// Args, one behind the other.
		"k(none, m + 1);": "Empty", "k(m + 1, none);": "Overflow", "k(p + 1, none);": "Type", "k(o, p + 1);": "Empty", "k(n, none);": "Empty", "k(p, m + 1);": "Overflow", "x = k(n, p + 1);": "Type",
		"fork u(none, m + 1);": "Empty", "fork u(m + 1, none);": "Overflow", "fork u(p + 1, none);": "Type", "fork u(n, o);": "Empty", "fork u(p, m + 1);": "Overflow", "fork u(p, p - 1);": "Type",
		// Where there is no room.
		"x = new 257;": "Full", "x = new 1099511627776;": "Full", "x = array m;": "Full", "x = array l;": "Full",
	}
}

// reasonMachine: the body is that of the thread 0; of another number, if others are asked to be ahead of it: these have ended then.
func reasonMachine(t *testing.T, body string, others int) *Machine {
	t.Helper()
	const params = "n: int, p: &t, in: &t, out: &t, gone: &t, o: int, m: int, l: int"
	const args = "n, p, in, out, gone, o, m, l"
	libs := "fn g(z: int) -> int { return z; } fn k(y: int, z: int) { }"
	client := "fn w(z: int) { } fn u(y: int, z: int) { } fn main() { } fn f(" + params + ") { " + body + " }"
	values := []mem.Value{num(1), ptr(1, 0), ptr(1, 1), ptr(1, 3), ptr(2, 0), {}, num(api.MaxNum), num(-api.MaxNum)}
	forks := "fn begin(n: int, p: &t, in: &t, out: &t, gone: &t, m: int, l: int) { fork begun(" + strings.Replace(args, "o, ", "", 1) + "); }"
	begun := "fn begun(n: int, p: &t, in: &t, out: &t, gone: &t, m: int, l: int) { o = h(); " + body + " }"
	m := mustLink(t, libs+" fn h() { } "+forks, client+begun)
	if others == 0 {
		at, _, _ := m.Find("f")
		return Call(m, at, someMemory(), values...)
	}
	at, _, _ := m.Find("begin")
	x := Call(m, at, someMemory(), append(values[:5:5], values[6:]...)...)
	steps(x, 0, 0, 0, 0)
	return x
}

// TestP92Reasons: of several reasons the first one that is come to counts, in whatever thread.
func TestP92Reasons(t *testing.T) {
	for body, want := range reasons() {
		for thread := range 2 {
			x := reasonMachine(t, body, thread)
			end, why := Stuck, mem.Fine
			for i, name := range whyNames {
				if name == want {
					why = mem.Stuck(i)
				}
			}
			if why == mem.Fine {
				end = map[string]End{"Overflow": Overflow, "Full": Full}[want]
			}
			wantEnds(t, x, end, why, thread)
			if t.Failed() {
				t.Fatalf("%s in the thread %d: want %s", body, thread, want)
			}
		}
	}
}

// TestP92Frames: a thread has 64 frames at most; what their args are is looked at ahead.
func TestP92Frames(t *testing.T) {
	const most = 64
	libs := "fn f(n: int, p: &t) -> int { if n < 1 { return 9; } n = n - 1; x = f(n, p); return x; } fn e(n: int, p: &t) { if n < 1 { f(p + 1, none); } n = n - 1; e(n, p); }"
	m := mustLink(t, libs, "fn main() { fork w(1); f(70, 0); } fn w(z: int) { f(70, 0); }")
	// As many as there may be: the deepest one answers, and all that called it hand that on.
	x := Call(m, 0, someMemory(), num(most-1), num(0))
	for range most - 1 {
		run(x, 3)
	}
	if depth := len(x.Tell().Threads[0].Frames); depth != most || x.End() != Running {
		t.Fatalf("P9.2: %d frames, %s; want %d", depth, endNames[x.End()], most)
	}
	run(x, 2*most)
	wantTold(t, x, "Done | - | "+someBlocks)
	wantResult(t, x, "9")
	// One more.
	x = Call(m, 0, someMemory(), num(most), num(0))
	for range most - 1 {
		run(x, 3)
	}
	run(x, 2)
	if depth := len(x.Tell().Threads[0].Frames); depth != most {
		t.Fatalf("P9.2: %d frames, want %d", depth, most)
	}
	wantEnds(t, x, Full, mem.Fine, 0)
	// The args of what there is no room for.
	x = Call(m, 1, someMemory(), num(most-1), ptr(1, 0))
	for range most - 1 {
		run(x, 3)
	}
	run(x, 1)
	if depth := len(x.Tell().Threads[0].Frames); depth != most {
		t.Fatalf("P9.2: %d frames, want %d", depth, most)
	}
	wantEnds(t, x, Stuck, mem.Type, 0)
	// The frames of one thread don't count for another.
	x = New(m)
	for range 250 {
		steps(x, 0, 1)
	}
	told := x.Tell()
	if told.End != Full || len(told.Threads[0].Frames) != most || len(told.Threads[1].Frames) < most-1 {
		t.Errorf("P9.2: two threads that call and call: %s", textOf(told))
	}
}

// TestP92FramesAgain: frames that have ended make room.
func TestP92FramesAgain(t *testing.T) {
	m := mustLink(t, "fn g(z: int) -> int { return z; } fn f(n: int) -> int { while 0 < n { n = n - 1; x = g(n); } return x; }", "fn main() { }")
	x := Call(m, 1, mem.New(), num(200))
	run(x, 2000)
	wantTold(t, x, "Done | - | ")
	wantResult(t, x, "0")
}

// TestP92Threads: there are MaxThread threads at most, those that have ended too; what the args are is looked at ahead.
func TestP92Threads(t *testing.T) {
	for _, stays := range []bool{true, false} {
		body := ""
		if stays {
			body = "while 0 < 1 { }"
		}
		for ahead, want := range map[string]outcome{"": {end: Full}, "none": {Stuck, mem.Empty}, "p + 1": {Stuck, mem.Type}, "m + 1": {end: Overflow}} {
			text := "fork w(n);"
			if ahead != "" {
				text = "fork w(" + ahead + ");"
			}
			x := New(mustLink(t, "", "fn w(z: int) { "+body+" } fn main() { m = 1099511627776; p = new 1; n = 1; while n < 64 { fork w(n); n = n + 1; } "+text+" }"))
			run(x, 3)
			for number := 1; number < api.MaxThread; number++ {
				run(x, 4)
				if told := x.Tell(); len(told.Threads) != number+1 || told.End != Running {
					t.Fatalf("P9.2: behind %d forks %s", number, textOf(told))
				}
				if !stays {
					x.Step(1)
				}
			}
			run(x, 1)
			wantEnds(t, x, want.end, want.why, 0)
			live := api.MaxThread
			if !stays {
				live = 1
			}
			if got := len(x.Live()); got != live {
				t.Errorf("P9.3: %d threads live, want %d", got, live)
			}
		}
	}
}

// TestP92Memory: there is no room when MaxCells cells count, of blocks that are gone too.
func TestP92Memory(t *testing.T) {
	for _, form := range []string{"x = new T;", "n = T; x = array n;"} {
		for _, free := range []string{"", "free p;"} {
			for rest, fits := range map[int]bool{0: true, 239: true, 240: true, 241: false, 256: false} {
				body := "n = 0; while n < 15 { p = new 256; n = n + 1; " + free + " } " + strings.ReplaceAll(form, "T", strconv.Itoa(rest))
				x := Call(bodyImage(t, "", body), 0, mem.New())
				// A round of the While is a Branch, its statements and a Jump; behind all rounds the Branch comes once more.
				round := 4 + strings.Count(free, ";")
				run(x, 1+15*round+1+strings.Count(form, "n ="))
				if used := x.Tell().Used; used != 15*257 {
					t.Fatalf("P9.3: %s: %d cells count, want %d", body, used, 15*257)
				}
				if !fits {
					wantEnds(t, x, Full, mem.Fine, 0)
					continue
				}
				run(x, 1)
				if told := x.Tell(); told.End != Running || told.Used != 15*257+rest+1 || !told.Blocks[15].Live {
					t.Errorf("P9.2: %s: %s, %d cells count", body, endNames[told.End], told.Used)
				}
			}
		}
	}
}

// TestP92SmallestBlock: where all cells count, there is no room for a block without cells.
func TestP92SmallestBlock(t *testing.T) {
	for _, form := range []string{"x = new 0;", "n = 0; x = array n;"} {
		memory := mem.New()
		for range 16 {
			memory.Alloc(255)
		}
		if memory.Used() != api.MaxCells {
			t.Fatalf("%d cells count", memory.Used())
		}
		x := Call(bodyImage(t, "", form), 0, memory)
		run(x, strings.Count(form, "n ="))
		wantEnds(t, x, Full, mem.Fine, 0)
	}
	for n, fits := range map[int64]bool{-1: false, 0: true, 256: true, 257: false, math.MinInt64: false, math.MaxInt64: false} {
		x := Call(bodyImage(t, "n: int", "x = array n;"), 0, mem.New(), num(n))
		if !fits {
			wantEnds(t, x, Full, mem.Fine, 0)
			continue
		}
		x.Step(0)
		if told := x.Tell(); told.End != Running || told.Used != int(n)+1 {
			t.Errorf("P9.2: an array of %d: %s, %d cells count", n, endNames[told.End], told.Used)
		}
	}
}

// TestP92Abort ends a machine from within a call and from any thread.
func TestP92Abort(t *testing.T) {
	m := mustLink(t, "fn f() { abort; }", "fn main() { fork w(); f(); } fn w() { abort; }")
	x := New(m)
	run(x, 2)
	wantEnds(t, x, Aborted, mem.Fine, 0)
	x = New(m)
	x.Step(0)
	wantEnds(t, x, Aborted, mem.Fine, 1)
	wantTold(t, x, "Aborted | 1@1; 2@0 | ")
}
