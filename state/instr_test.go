package state

import (
	"math"
	"strconv"
	"strings"
	"testing"

	"lychgate/api"
	"lychgate/link"
	"lychgate/mem"
)

// bodyImage: the body is that of f, with the number 0; there are g, which answers its parameter (1), h, which answers nothing (2), k of two parameters (3), and of the client w (4), u of two parameters (5) and main (6).
func bodyImage(t *testing.T, params, body string) link.Image {
	t.Helper()
	libs := "fn f(" + params + ") { " + body + " } fn g(z: int) -> int { return z; } fn h() { } fn k(y: int, z: int) { }"
	return mustLink(t, libs, "fn w(z: int) { } fn u(y: int, z: int) { } fn main() { }")
}

// bodyMachine is at the beginning of the body, over someMemory: a is 1, b a pointer to the first cell, c Poison.
func bodyMachine(t *testing.T, body string) *Machine {
	t.Helper()
	return Call(bodyImage(t, "a: int, b: &t, c: int", body), 0, someMemory(), num(1), ptr(1, 0))
}

// TestP92Example: the chapter's.
func TestP92Example(t *testing.T) {
	x := New(mustLink(t, "", "fn main() { x = new 1; y = x[0]; }"))
	for _, want := range []string{
		"Running | 0@0 | ",
		"Running | 0@1 x=*1.0 | [_]",
		"Running | 0@1 x=*1.0 busy(true *1.0 _) | [_r]",
		"Stuck Empty 0 | 0@1 x=*1.0 busy(true *1.0 _) | [_]",
		"Stuck Empty 0 | 0@1 x=*1.0 busy(true *1.0 _) | [_]",
	} {
		wantTold(t, x, want)
		wantResult(t, x, "")
		x.Step(0)
	}
}

// TestP92Instructions: each instruction, with all that it leaves behind so many steps.
func TestP92Instructions(t *testing.T) {
	const v, rest = "a=1 b=*1.0 c=_", " | " + someBlocks
	zeros := strings.TrimSpace(strings.Repeat("0 ", 256))
	for _, c := range []struct {
		body string
		n    int
		want string
	}{
		{"x = 5;", 1, "Running | 0@1 " + v + " x=5" + rest},
		{"x = -1099511627776;", 1, "Running | 0@1 " + v + " x=-1099511627776" + rest},
		{"x = a;", 1, "Running | 0@1 " + v + " x=1" + rest},
		{"x = b;", 1, "Running | 0@1 " + v + " x=*1.0" + rest},
		{"x = &b;", 1, "Running | 0@1 " + v + " x=*1.0" + rest},
		{"x = &mut a;", 1, "Running | 0@1 " + v + " x=1" + rest},
		{"a = b;", 1, "Running | 0@1 a=*1.0 b=*1.0 c=_" + rest},
		{"c = 2;", 1, "Running | 0@1 a=1 b=*1.0 c=2" + rest},
		{"y = 2; x = 3; y = x;", 3, "Running | 0@3 " + v + " y=3 x=3" + rest},
		{"x = a + 3;", 1, "Running | 0@1 " + v + " x=4" + rest},
		{"x = a - 3;", 1, "Running | 0@1 " + v + " x=-2" + rest},
		{"x = a + 0;", 1, "Running | 0@1 " + v + " x=1" + rest},
		{"x = b + 0;", 1, "Running | 0@1 " + v + " x=*1.0" + rest},
		{"a = a + 1;", 1, "Running | 0@1 a=2 b=*1.0 c=_" + rest},
		{"x = 5; y = x + a;", 2, "Running | 0@2 " + v + " x=5 y=6" + rest},
		{"x = 5; y = a - x;", 2, "Running | 0@2 " + v + " x=5 y=-4" + rest},
		{"a = a + a;", 1, "Running | 0@1 a=2 b=*1.0 c=_" + rest},
		{"x = new 0;", 1, "Running | 0@1 " + v + " x=*4.0" + rest + "[]"},
		{"x = new 2;", 1, "Running | 0@1 " + v + " x=*4.0" + rest + "[_ _]"},
		{"b = new 1; b = new 3;", 2, "Running | 0@2 a=1 b=*5.0 c=_" + rest + "[_][_ _ _]"},
		{"x = array a;", 1, "Running | 0@1 " + v + " x=*4.0" + rest + "[0]"},
		{"a = 3; a = array a;", 2, "Running | 0@2 a=*4.0 b=*1.0 c=_" + rest + "[0 0 0]"},
		{"x = 0; x = array x;", 2, "Running | 0@2 " + v + " x=*4.0" + rest + "[]"},
		{"x = 256; x = array x;", 2, "Running | 0@2 " + v + " x=*4.0" + rest + "[" + zeros + "]"},
		{"x = b[0];", 1, "Running | 0@0 " + v + " busy(true *1.0 _) | [7r *3.0 _](_)[0]"},
		{"x = b[0];", 2, "Running | 0@1 " + v + " x=7" + rest},
		{"x = b[a];", 1, "Running | 0@0 " + v + " busy(true *1.1 _) | [7 *3.0r _](_)[0]"},
		{"x = b[a];", 2, "Running | 0@1 " + v + " x=*3.0" + rest},
		{"x = b[a - 1];", 2, "Running | 0@1 " + v + " x=7" + rest},
		{"b = b[1]; b = b[0];", 2, "Running | 0@1 a=1 b=*3.0 c=_" + rest},
		{"b = b[1]; b = b[0];", 4, "Running | 0@2 a=1 b=0 c=_" + rest},
		{"b[0] = 8;", 1, "Running | 0@0 " + v + " busy(true *1.0 8) | [7w *3.0 _](_)[0]"},
		{"b[0] = 8;", 2, "Running | 0@1 " + v + " | [8 *3.0 _](_)[0]"},
		{"b[a + 1] = b;", 1, "Running | 0@0 " + v + " busy(true *1.2 *1.0) | [7 *3.0 _w](_)[0]"},
		{"b[a + 1] = b;", 2, "Running | 0@1 " + v + " | [7 *3.0 *1.0](_)[0]"},
		{"b[a] = a - 3;", 2, "Running | 0@1 " + v + " | [7 -2 _](_)[0]"},
		{"free b;", 1, "Running | 0@1 " + v + " | (7 *3.0 _)(_)[0]"},
		{"b[2] = 0; lock b[2];", 3, "Running | 0@2 " + v + " | [7 *3.0 1](_)[0]"},
		{"b[2] = 0; lock b[2]; lock b[2];", 5, "Running | 0@2 " + v + " | [7 *3.0 1](_)[0]"},
		{"lock b[0];", 3, "Running | 0@0 " + v + rest},
		{"b[2] = 0; lock b[2]; unlock b[2];", 4, "Running | 0@3 " + v + " | [7 *3.0 0](_)[0]"},
		{"unlock b[0];", 1, "Running | 0@1 " + v + " | [0 *3.0 _](_)[0]"},
		{"unlock b[0]; unlock b[0]; lock b[0];", 3, "Running | 0@3 " + v + " | [1 *3.0 _](_)[0]"},
		{"if a == 1 { x = 2; } else { x = 3; } y = 4;", 1, "Running | 0@1 " + v + rest},
		{"if a == 1 { x = 2; } else { x = 3; } y = 4;", 3, "Running | 0@4 " + v + " x=2" + rest},
		{"if a == 2 { x = 2; } else { x = 3; } y = 4;", 1, "Running | 0@3 " + v + rest},
		{"if a == 2 { x = 2; } else { x = 3; } y = 4;", 2, "Running | 0@4 " + v + " x=3" + rest},
		{"while a < 3 { a = a + 1; }", 3, "Running | 0@0 a=2 b=*1.0 c=_" + rest},
		{"while a < 3 { a = a + 1; }", 7, "Running | 0@3 a=3 b=*1.0 c=_" + rest},
		{"g(a + 1);", 1, "Running | 0@1 " + v + " / 1@0 z=2" + rest},
		{"g(a + 1);", 2, "Running | 0@1 " + v + rest},
		{"x = g(b);", 1, "Running | 0@1 " + v + " / 1@0 z=*1.0 >x" + rest},
		{"x = g(b);", 2, "Running | 0@1 " + v + " x=*1.0" + rest},
		{"a = g(-3);", 2, "Running | 0@1 a=-3 b=*1.0 c=_" + rest},
		{"h();", 2, "Running | 0@1 " + v + rest},
		{"x = h();", 1, "Running | 0@1 " + v + " / 2@0 >x" + rest},
		{"x = h();", 2, "Running | 0@1 " + v + " x=_" + rest},
		{"a = h();", 2, "Running | 0@1 a=_ b=*1.0 c=_" + rest},
		{"k(a, b);", 1, "Running | 0@1 " + v + " / 3@0 y=1 z=*1.0" + rest},
		{"fork w(b);", 1, "Running | 0@1 " + v + "; 4@0 z=*1.0" + rest},
		{"fork u(a - 1, b); fork w(6);", 2, "Running | 0@2 " + v + "; 5@0 y=0 z=*1.0; 4@0 z=6" + rest},
		{"", 1, "Done | -" + rest},
		{"return; x = 1;", 1, "Done | -" + rest},
		{"return a; x = 1;", 1, "Done | -" + rest},
		{"x = 2; abort; x = 3;", 2, "Aborted | 0@1 " + v + " x=2" + rest},
	} {
		x := bodyMachine(t, c.body)
		run(x, c.n)
		wantTold(t, x, c.want)
		if t.Failed() {
			t.Fatalf("behind %d steps of %s", c.n, c.body)
		}
	}
}

// TestP92Branch: each cmp, with the first number below, at and above the second one.
func TestP92Branch(t *testing.T) {
	for _, c := range []struct {
		cmp   string
		holds [3]bool
	}{{"<", [3]bool{true, false, false}}, {"<=", [3]bool{true, true, false}}, {"==", [3]bool{false, true, false}}} {
		for i, holds := range c.holds {
			first := strconv.Itoa(6 + i)
			for _, terms := range [][2]string{{first, "7"}, {"p", "q"}, {"p", "7"}, {first, "q"}, {"p + 1", "q + 1"}, {"p - 2", "5"}} {
				for _, form := range []string{"if %s { x = 1; } x = 2;", "if %s { x = 1; } else { x = 0; } x = 2;", "while %s { x = 1; } x = 2;"} {
					body := "p = " + first + "; q = 7; " + strings.Replace(form, "%s", terms[0]+" "+c.cmp+" "+terms[1], 1)
					x := bodyMachine(t, body)
					run(x, 3)
					want := 3
					if !holds {
						want = 5
					}
					if got := x.Tell().Threads[0].Frames[0].At; got != want {
						t.Errorf("P9.2: %s: from the Branch to %d, want %d", body, got, want)
					}
				}
			}
		}
	}
}

// TestP92Far: numbers and pointers that only a caller can hand in are reckoned with modulo 2^64.
func TestP92Far(t *testing.T) {
	const most, least = "9223372036854775807", "-9223372036854775808"
	for _, c := range []struct {
		body string
		a, b int64
		want string
	}{
		{"x = a;", math.MaxInt64, 0, most},
		{"x = a + 0;", math.MinInt64, 0, least},
		{"x = a + b;", math.MaxInt64, math.MaxInt64, "-2"},
		{"x = a + b;", math.MinInt64, math.MinInt64, "0"},
		{"x = a - b;", math.MinInt64, math.MaxInt64, "1"},
		{"x = a - b;", math.MaxInt64, math.MinInt64, "-1"},
		{"x = a - b;", math.MinInt64, math.MinInt64, "0"},
		{"x = a + b;", math.MinInt64, math.MaxInt64, "-1"},
		{"x = a + b;", math.MaxInt64, 1, "Overflow"},
		{"x = a - b;", math.MinInt64, 1, "Overflow"},
		{"x = a - b;", 0, math.MinInt64, "Overflow"},
		{"x = a + 1;", math.MaxInt64, 0, "Overflow"},
		{"x = a - 1;", math.MinInt64, 0, "Overflow"},
		{"x = a - 1;", math.MaxInt64, 0, "Overflow"},
		{"x = b; if a < 0 { x = 5; }", math.MinInt64, 0, "5"},
		{"x = b; if 0 < a { x = 5; }", math.MaxInt64, 0, "5"},
		{"x = b; if a < b { x = 5; }", math.MinInt64, math.MaxInt64, "5"},
	} {
		x := Call(bodyImage(t, "a: int, b: int", c.body), 0, mem.New(), num(c.a), num(c.b))
		run(x, 1+2*strings.Count(c.body, "if"))
		got := endNames[x.End()]
		if vars := x.Tell().Threads[0].Frames[0].Vars; len(vars) == 3 {
			got = textOfValue(vars[2].Value)
		}
		if got != c.want {
			t.Errorf("P9.2: %s, of %d and %d: %s, want %s", c.body, c.a, c.b, got, c.want)
		}
	}
}

// TestP92Pointers: a pointer into a block, or far outside of it, is raised by the index modulo 2^64.
func TestP92Pointers(t *testing.T) {
	for _, c := range []struct {
		p    mem.Value
		by   int64
		want string
	}{
		{ptr(1, 2), -2, "Running | *1.0"}, {ptr(1, 2), -1, "Running | *1.1"}, {ptr(1, -1), 3, "Running | *1.2"},
		{ptr(1, 2), 1, "Stuck Bounds 0 | _"}, {ptr(1, 0), -1, "Stuck Bounds 0 | _"}, {ptr(1, 2), math.MaxInt64, "Stuck Bounds 0 | _"},
		{ptr(1, math.MinInt64), math.MinInt64, "Running | *1.0"}, {ptr(1, math.MaxInt64), math.MinInt64 + 3, "Running | *1.2"},
		{ptr(1, math.MaxInt64), math.MinInt64, "Stuck Bounds 0 | _"}, {ptr(1, 1099511627776), -1099511627775, "Running | *1.1"},
		{ptr(2, 0), 0, "Stuck Gone 0 | _"}, {ptr(4, 0), 0, "Stuck Gone 0 | _"}, {ptr(0, 0), 0, "Stuck Gone 0 | _"}, {ptr(-1, 0), 0, "Stuck Gone 0 | _"},
	} {
		for _, body := range []string{"x = p[i];", "p[i] = i;"} {
			x := Call(bodyImage(t, "p: &t, i: int", body), 0, someMemory(), c.p, num(c.by))
			x.Step(0)
			told := x.Tell()
			if got := strings.Split(textOf(told), " | ")[0] + " | " + textOfValue(told.Threads[0].P); got != c.want {
				t.Errorf("P9.2: %s, of %v and %d: %s, want %s", body, c.p, c.by, got, c.want)
			}
		}
	}
	// The number of a Lock raises a pointer too.
	for _, n := range []int64{-1099511627776, -2, 0, 2} {
		memory := mem.New()
		memory.Alloc(3)
		put(memory, ptr(1, 2), num(0))
		x := Call(bodyImage(t, "p: &t", "lock p[1099511627776]; unlock p[1099511627776];"), 0, memory, ptr(1, n-1099511627774))
		x.Step(0)
		want := "[_ _ _]"
		if n == 0 {
			want = "[_ _ 1]"
		}
		if got := textOfBlock(memory.Blocks()[0]); (x.End() == Running) != (n == 0) || n == 0 && got != want {
			t.Errorf("P9.2: a Lock of the cell %d: End %d, %s", n+2, x.End(), got)
		}
		x.Step(0)
		if got := textOfBlock(memory.Blocks()[0]); n == 0 && got != "[_ _ 0]" {
			t.Errorf("P9.2: an Unlock of the cell 2: %s", got)
		}
	}
}

// TestP92Odd: a value of any Kind is handed on as it is; what it is counts where it is used.
func TestP92Odd(t *testing.T) {
	odd := mem.Value{Kind: mem.Ptr + 1, N: 4, Block: 1}
	wide := mem.Value{Kind: mem.Int, N: 4, Block: 6}
	x := Call(bodyImage(t, "a: int, b: int, p: &t", "c = a; d = b; e = b + 1; a = g(a); b = g(b + 0); p[0] = a; p[1] = b;"), 0, someMemory(), odd, wide, ptr(1, 0))
	run(x, 7)
	wantTold(t, x, "Running | 0@5 a=?3,4,1 b=?1,4,6 p=*1.0 c=?3,4,1 d=?1,4,6 e=5 | "+someBlocks)
	x.Step(0)
	wantTold(t, x, "Running | 0@5 a=?3,4,1 b=?1,4,6 p=*1.0 c=?3,4,1 d=?1,4,6 e=5 busy(true *1.0 ?3,4,1) | [7w *3.0 _](_)[0]")
	run(x, 3)
	wantTold(t, x, "Running | 0@7 a=?3,4,1 b=?1,4,6 p=*1.0 c=?3,4,1 d=?1,4,6 e=5 | [_ 4 _](_)[0]")
	for _, body := range []string{"x = a + 1;", "x = a + b;", "x = b - a;", "x = array a;", "x = a[0];", "a[0] = 1;", "x = p[a];", "p[a] = 1;", "free a;", "lock a[0];", "unlock a[0];", "if a < 1 { }", "if b == a { }"} {
		x := Call(bodyImage(t, "a: int, b: int, p: &t", body), 0, someMemory(), odd, wide, ptr(1, 0))
		x.Step(0)
		wantTold(t, x, "Stuck Type 0 | 0@0 a=?3,4,1 b=?1,4,6 p=*1.0 | "+someBlocks)
	}
	// A result is as it is too, and so is Poison with a number, which is no value.
	x = Call(bodyImage(t, "a: int", "return a;"), 0, mem.New(), odd)
	x.Step(0)
	wantResult(t, x, "?3,4,1")
	x = Call(bodyImage(t, "a: int", "return a;"), 0, mem.New(), mem.Value{N: 1})
	x.Step(0)
	wantTold(t, x, "Stuck Empty 0 | 0@0 a=?0,1,0 | ")
	wantResult(t, x, "")
}

// edges: terms and sums that come to a number, which is the least or greatest that there is, or one beyond.
func edges() map[string]int64 {
	return map[string]int64{
		"m": api.MaxNum, "m + 0": api.MaxNum, "m + 1": api.MaxNum + 1, "m - 1": api.MaxNum - 1, "m + 1099511627776": 2 * api.MaxNum, "m - 1099511627776": 0,
		"l": -api.MaxNum, "l - 1": -api.MaxNum - 1, "l + 1": -api.MaxNum + 1, "l - 1099511627776": -2 * api.MaxNum, "1099511627776": api.MaxNum, "-1099511627776": -api.MaxNum,
		"n + 1": api.MaxNum, "n + 2": api.MaxNum + 1, "o - 1": -api.MaxNum, "o - 2": -api.MaxNum - 1,
	}
}

// edgeMachine: m and l are the greatest and the least number, n and o are next to them, i and j 1 and -1, p is a pointer.
func edgeMachine(t *testing.T, body string) *Machine {
	t.Helper()
	m := bodyImage(t, "m: int, l: int, n: int, o: int, i: int, j: int, p: &t", body)
	return Call(m, 0, someMemory(), num(api.MaxNum), num(-api.MaxNum), num(api.MaxNum-1), num(1-api.MaxNum), num(1), num(-1), ptr(1, 0))
}

func TestP92Overflow(t *testing.T) {
	const beyond = "Overflow"
	for term, n := range edges() {
		over := n > api.MaxNum || n < -api.MaxNum
		for body, end := range map[string]string{
			"x = T;": "", "x = g(T);": "", "k(i, T);": "", "k(T, i);": "", "fork w(T);": "", "fork u(T, i);": "", "return T;": "", "p[0] = T;": "", "if T < i { }": "", "if i == T { }": "", "while T < T { }": "",
			"x = p[T];": "Bounds", "p[T] = i;": "Bounds",
		} {
			x := edgeMachine(t, strings.ReplaceAll(body, "T", term))
			switch {
			case over:
				wantEnds(t, x, Overflow, mem.Fine, 0)
			case end == "Bounds" && n == 0:
				x.Step(0)
				wantRunning(t, x, body)
			case end == "Bounds":
				wantEnds(t, x, Stuck, mem.Bounds, 0)
			default:
				x.Step(0)
				wantRunning(t, x, body)
			}
			if t.Failed() {
				t.Fatalf("%s with %s", body, term)
			}
		}
	}
	for sum, want := range map[string]string{
		"m + i": beyond, "i + m": beyond, "m - j": beyond, "l + j": beyond, "j + l": beyond, "l - i": beyond, "m + m": beyond, "l + l": beyond, "m - l": beyond, "l - m": beyond,
		"n + i": "1099511627776", "i + n": "1099511627776", "n - j": "1099511627776", "o + j": "-1099511627776", "j + o": "-1099511627776", "o - i": "-1099511627776",
		"m + j": "1099511627775", "l + i": "-1099511627775", "m + l": "0", "m - m": "0", "l - l": "0", "i - m": "-1099511627775", "j - m": beyond, "j - l": "1099511627775", "i - l": beyond,
	} {
		x := edgeMachine(t, "x = "+sum+";")
		if want == beyond {
			wantEnds(t, x, Overflow, mem.Fine, 0)
		} else {
			x.Step(0)
			vars := x.Tell().Threads[0].Frames[0].Vars
			if got := textOfValue(vars[len(vars)-1].Value); got != want {
				t.Errorf("P9.2: %s is %s, want %s", sum, got, want)
			}
		}
		if t.Failed() {
			t.Fatalf("x = %s;", sum)
		}
	}
}

func wantRunning(t *testing.T, x *Machine, body string) {
	t.Helper()
	if end := x.End(); end != Running && !(end == Done && strings.HasPrefix(body, "return")) {
		t.Errorf("P9.2: %s: the end %s", body, endNames[end])
	}
}

// wantEnds wants the next step of a thread to come to an end and to change nothing else; only what its memory tells may be changed, of a thread that was busy. Further steps do nothing.
func wantEnds(t *testing.T, x *Machine, end End, why mem.Stuck, thread int) {
	t.Helper()
	want := x.Tell()
	for place, number := range x.Live() {
		if number != thread {
			continue
		}
		x.Step(place)
		want.End, want.Why = end, why
		if end == Stuck {
			want.Thread = thread
		}
		if want.Threads[thread].Busy {
			want.Blocks = x.Tell().Blocks
		}
		for _, pick := range []int{0, 1, -1, math.MinInt, math.MaxInt} {
			wantTold(t, x, textOf(want))
			x.Step(pick)
		}
		return
	}
	t.Errorf("there is no thread %d that hasn't ended", thread)
}
