package state

import (
	"math"
	"slices"
	"testing"

	"lychgate/code"
	"lychgate/link"
	"lychgate/mem"
)

func TestP91New(t *testing.T) {
	for _, c := range []struct{ libs, client, want string }{
		{"", "fn main() { }", "Running | 0@0 | "},
		{"", "fn main() -> int { x = 1; return x; }", "Running | 0@0 | "},
		{"fn f() { }", "fn main() { f(); }", "Running | 1@0 | "},
		{"fn f() { } fn g() { }", "fn u() { } fn main() { } fn w() { }", "Running | 3@0 | "},
		{"type t own; fn f(a: int) { }", "fn main() { } fn w(b: int) { }", "Running | 1@0 | "},
	} {
		x := New(mustLink(t, c.libs, c.client))
		wantTold(t, x, c.want)
		wantResult(t, x, "")
	}
}

func TestP91Call(t *testing.T) {
	m := mustLink(t, "fn f(a: int, b: own t, c: &t) { } fn none() { }", "fn main() { } fn w(i: int) { }")
	odd := []mem.Value{
		{N: 4, Block: 5}, {Kind: mem.Int, N: math.MinInt64, Block: -1}, {Kind: mem.Ptr + 1, N: 6}, {Kind: -1}, ptr(0, 0), ptr(math.MinInt, math.MaxInt64),
	}
	for _, c := range []struct {
		at   int
		args []mem.Value
		want string
	}{
		{0, nil, "0@0 a=_ b=_ c=_"},
		{0, []mem.Value{num(3)}, "0@0 a=3 b=_ c=_"},
		{0, []mem.Value{num(3), ptr(1, 2)}, "0@0 a=3 b=*1.2 c=_"},
		{0, []mem.Value{num(3), {}, ptr(1, 2)}, "0@0 a=3 b=_ c=*1.2"},
		{0, []mem.Value{num(3), num(4), num(5), num(6), num(7)}, "0@0 a=3 b=4 c=5"},
		{0, odd, "0@0 a=?0,4,5 b=?1,-9223372036854775808,-1 c=?3,6,0"},
		{0, odd[3:], "0@0 a=?-1,0,0 b=*0.0 c=*-9223372036854775808.9223372036854775807"},
		{1, nil, "1@0"},
		{1, odd, "1@0"},
		{2, nil, "2@0"},
		{2, odd, "2@0"},
		{3, nil, "3@0 i=_"},
		{3, []mem.Value{ptr(3, 0), num(1)}, "3@0 i=*3.0"},
	} {
		before := slices.Clone(c.args)
		x := Call(m, c.at, someMemory(), c.args...)
		wantTold(t, x, "Running | "+c.want+" | "+someBlocks)
		wantResult(t, x, "")
		if !slices.Equal(before, c.args) {
			t.Errorf("P9.1: the args %v became %v", before, c.args)
		}
	}
}

// TestP91ArgsBehind: what lies behind the length of the list of args is no arg (rule 4), and what is done to the list later isn't seen.
func TestP91ArgsBehind(t *testing.T) {
	m := mustLink(t, "fn f(a: int, b: int) { x = a; }", "fn main() { }")
	args := []mem.Value{num(1), num(2), num(3)}
	x := Call(m, 0, mem.New(), args[:1]...)
	wantTold(t, x, "Running | 0@0 a=1 b=_ | ")
	if !slices.Equal(args, []mem.Value{num(1), num(2), num(3)}) {
		t.Errorf("rule 4: the args became %v", args)
	}
	args[0] = num(9)
	x.Step(0)
	wantTold(t, x, "Running | 0@1 a=1 b=_ x=1 | ")
}

// TestP91SameNames: a parameter that has the name of an earlier one is that variable, and gets its value behind it.
func TestP91SameNames(t *testing.T) {
	m := mustLink(t, "fn f(a: int, b: int, a: int) { f(3, 4, 5); }", "fn main() { }")
	wantTold(t, Call(m, 0, mem.New(), num(1), num(2)), "Running | 0@0 a=_ b=2 | ")
	x := Call(m, 0, mem.New(), num(1), num(2), num(3))
	wantTold(t, x, "Running | 0@0 a=3 b=2 | ")
	x.Step(0)
	wantTold(t, x, "Running | 0@1 a=3 b=2 / 0@0 a=5 b=4 | ")
}

func TestP91None(t *testing.T) {
	broken, _, _, _ := link.Link(mustParse(t, "fn f() { }"), mustParse(t, "fn w() { }"))
	for _, m := range []link.Image{{}, broken, {Codes: []code.Code{}}} {
		if New(m) != nil {
			t.Errorf("P9.1: an image without a main has a machine")
		}
		for _, at := range []int{0, 1, -1, math.MinInt, math.MaxInt} {
			if Call(m, at, mem.New()) != nil || Call(m, at, nil) != nil {
				t.Errorf("P9.1: an image without codes has a machine of the code %d", at)
			}
		}
	}
	m := mustLink(t, "fn f() { }", "fn w() { } fn main() { }")
	for _, at := range []int{-1, 3, 4, math.MinInt, math.MaxInt} {
		if Call(m, at, mem.New()) != nil || Call(m, at, mem.New(), num(1)) != nil || Call(m, at, nil) != nil {
			t.Errorf("P9.1: there is no code %d, but a machine", at)
		}
		other := m
		other.Main = at
		if New(other) != nil {
			t.Errorf("P9.1: there is no main %d, but a machine", at)
		}
	}
	for at := range 3 {
		if Call(m, at, nil) != nil || Call(m, at, nil, num(1)) != nil {
			t.Errorf("P9.1: the code %d has a machine without a memory", at)
		}
		if Call(m, at, mem.New()) == nil {
			t.Errorf("P9.1: the code %d has no machine", at)
		}
	}
}

// TestP91Memory: the memory that is handed in is the machine's; that of New is its own.
func TestP91Memory(t *testing.T) {
	m := mustLink(t, "fn f(p: &t) { p[0] = 8; x = new 1; }", "fn main() { p = new 1; }")
	memory := someMemory()
	x := Call(m, 0, memory, ptr(1, 0))
	x.Step(0)
	if blocks := memory.Blocks(); !blocks[0].Writer[0] {
		t.Errorf("P9.1: the machine's write isn't seen in the memory: %v", blocks)
	}
	put(memory, ptr(3, 0), num(5))
	steps(x, 0, 0)
	wantTold(t, x, "Running | 0@2 p=*1.0 x=*4.0 | [8 *3.0 _](_)[5][_]")
	if memory.Used() != 10 {
		t.Errorf("P9.1: %d cells of the memory count, want 10", memory.Used())
	}
	// Another machine goes on over what this one has left there.
	y := Call(m, 0, memory, ptr(4, 0))
	run(y, 2)
	wantTold(t, y, "Running | 0@1 p=*4.0 | [8 *3.0 _](_)[5][8]")

	a, b := New(m), New(m)
	a.Step(0)
	wantTold(t, a, "Running | 1@1 p=*1.0 | [_]")
	wantTold(t, b, "Running | 1@0 | ")
}

// TestImageIsNotKept: what is done to an image later, in any of its lists, makes no difference to a machine (rule 4), and a machine does nothing to its image.
func TestImageIsNotKept(t *testing.T) {
	const libs, client = "fn f(a: int, b: int) -> int { c = a + b; return c; }", "fn main() -> int { x = f(1, 2); fork w(x); return x; } fn w(y: int) { z = y; }"
	m := mustLink(t, libs, client)
	x, y := New(m), Call(m, 0, mem.New(), num(1), num(2))
	for i := range m.Codes {
		c := &m.Codes[i]
		for k := range c.Params {
			c.Params[k] = "other"
		}
		for k := range c.List {
			for n := range c.List[k].Args {
				c.List[k].Args[n] = code.Term{Num: 77}
			}
			c.List[k] = code.Instr{Op: code.Abort}
		}
		*c = code.Code{}
	}
	want := New(mustLink(t, libs, client))
	for range 9 {
		wantTold(t, x, textOf(want.Tell()))
		x.Step(0)
		want.Step(0)
	}
	wantResult(t, x, "3")
	run(y, 2)
	wantResult(t, y, "3")

	m = mustLink(t, libs, client)
	run(New(m), 9)
	fresh := mustLink(t, libs, client)
	if m.Libs != fresh.Libs || m.Main != fresh.Main || !slices.EqualFunc(m.Codes, fresh.Codes, sameCode) {
		t.Errorf("rule 4: a machine has made of its image %v, want %v", m, fresh)
	}
}

func sameCode(a, b code.Code) bool {
	return a.Name == b.Name && slices.Equal(a.Params, b.Params) && slices.EqualFunc(a.List, b.List, sameInstr)
}

func sameInstr(a, b code.Instr) bool {
	return a.Op == b.Op && a.At == b.At && a.X == b.X && a.Y == b.Y && a.A == b.A && a.B == b.B && a.To == b.To && a.Has == b.Has && slices.Equal(a.Args, b.Args)
}

// TestByHand: images by hand are no arguments (P9.4), yet no call panics.
func TestByHand(t *testing.T) {
	instr := func(i code.Instr) []code.Instr { return []code.Instr{i} }
	lists := [][]code.Instr{nil, instr(code.Instr{Op: 99}), instr(code.Instr{Op: -1}), instr(code.Instr{Op: code.Ret, Has: true})}
	for op := range code.Abort + 1 {
		for _, to := range []int{0, 1, 7, -1, math.MinInt, math.MaxInt} {
			lists = append(lists, instr(code.Instr{Op: op, To: to, X: "x", Y: "none", A: code.Term{Name: "a"}, Args: make([]code.Term, 3)}))
			lists = append(lists, instr(code.Instr{Op: op, To: to, X: "~", Args: make([]code.Term, 1)}))
			lists = append(lists, instr(code.Instr{Op: op, To: to, Y: "a", A: code.Term{Name: "b", Num: math.MinInt64}}))
		}
	}
	for _, list := range lists {
		m := link.Image{Codes: []code.Code{{Name: "f", Params: []string{"a", "b", ""}, List: list}}, Libs: 7}
		for _, x := range []*Machine{New(m), Call(m, 0, someMemory(), num(1), num(2)), Call(m, 0, someMemory(), ptr(1, 0), num(0))} {
			for pick := range 100 {
				x.Step(pick)
				x.Live()
				x.End()
				x.Result()
				x.Tell()
			}
		}
	}
}
