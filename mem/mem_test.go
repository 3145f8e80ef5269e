package mem

import (
	"math"
	"slices"
	"testing"

	"lychgate/api"
)

func at(block int, n int64) Value { return Value{Kind: Ptr, N: n, Block: block} }

func num(n int64) Value { return Value{Kind: Int, N: n} }

// noPointers: values of each Kind that is no Ptr, also of such as are none, that name a cell else.
func noPointers(block int, n int64) []Value {
	var out []Value
	for _, kind := range []Kind{Poison, Int, Ptr + 1, -1, math.MaxInt, math.MinInt} {
		out = append(out, Value{Kind: kind, N: n, Block: block})
	}
	return out
}

// made: a memory with one block after the other, of these numbers of cells.
func made(t *testing.T, sizes ...int64) *Memory {
	t.Helper()
	m := New()
	for i, n := range sizes {
		wantBlock(t, m, n, i+1)
	}
	return m
}

// holding: a memory with one block, whose cells hold these.
func holding(t *testing.T, values ...Value) *Memory {
	t.Helper()
	m := made(t, int64(len(values)))
	for i, v := range values {
		put(t, m, at(1, int64(i)), v)
	}
	return m
}

func put(t *testing.T, m *Memory, p, v Value) {
	t.Helper()
	wantBegin(t, m, p, true, Fine)
	wantEnd(t, m, p, true, v, Value{}, Fine)
}

func wantRead(t *testing.T, m *Memory, p, want Value) {
	t.Helper()
	wantBegin(t, m, p, false, Fine)
	wantEnd(t, m, p, false, Value{}, want, Fine)
}

func wantEmpty(t *testing.T, m *Memory, p Value) {
	t.Helper()
	wantBegin(t, m, p, false, Fine)
	wantEnd(t, m, p, false, Value{}, Value{}, Empty)
}

func wantBlock(t *testing.T, m *Memory, n int64, block int) {
	t.Helper()
	before := m.Used()
	p, ok := m.Alloc(n)
	if !ok || p != at(block, 0) {
		t.Fatalf("P6.1: Alloc(%d): %v, %v; want the cell 0 of the block %d", n, p, ok, block)
	}
	if m.Used() != before+int(n)+1 {
		t.Fatalf("P6.1: Alloc(%d): %d cells counted ahead, %d behind", n, before, m.Used())
	}
}

func wantNoBlock(t *testing.T, m *Memory, n int64) {
	t.Helper()
	wantUnchanged(t, m, func() {
		if p, ok := m.Alloc(n); ok || p != (Value{}) {
			t.Errorf("P6.1: Alloc(%d): %v, %v; want none", n, p, ok)
		}
	})
}

// wantCall runs a call, and wants that it changes nothing if it is refused.
func wantCall(t *testing.T, m *Memory, refused bool, call func()) {
	t.Helper()
	if refused {
		wantUnchanged(t, m, call)
	} else {
		call()
	}
}

func wantFree(t *testing.T, m *Memory, p Value, want Stuck) {
	t.Helper()
	wantCall(t, m, want != Fine, func() {
		if why := m.Free(p); why != want {
			t.Errorf("P6.2: Free(%v): %d, want %d", p, why, want)
		}
	})
}

func wantBegin(t *testing.T, m *Memory, p Value, write bool, want Stuck) {
	t.Helper()
	wantCall(t, m, want != Fine, func() {
		if why := m.Begin(p, write); why != want {
			t.Errorf("P6.3: Begin(%v, %v): %d, want %d", p, write, why, want)
		}
	})
}

func wantEnd(t *testing.T, m *Memory, p Value, write bool, v, want Value, reason Stuck) {
	t.Helper()
	wantCall(t, m, reason != Fine && reason != Empty, func() {
		if is, why := m.End(p, write, v); is != want || why != reason {
			t.Errorf("P6.4: End(%v, %v, %v): %v, %d; want %v, %d", p, write, v, is, why, want, reason)
		}
	})
}

func wantLock(t *testing.T, m *Memory, p Value, want bool, reason Stuck) {
	t.Helper()
	wantCall(t, m, !want, func() {
		if had, why := m.Lock(p); had != want || why != reason {
			t.Errorf("P6.5: Lock(%v): %v, %d; want %v, %d", p, had, why, want, reason)
		}
	})
}

func wantUnlock(t *testing.T, m *Memory, p Value, want Stuck) {
	t.Helper()
	wantCall(t, m, want != Fine, func() {
		if why := m.Unlock(p); why != want {
			t.Errorf("P6.5: Unlock(%v): %d, want %d", p, why, want)
		}
	})
}

// wantNone: what p names may not be used for this reason, whatever is asked.
func wantNone(t *testing.T, m *Memory, p Value, reason Stuck) {
	t.Helper()
	for _, write := range []bool{false, true} {
		wantBegin(t, m, p, write, reason)
		wantEnd(t, m, p, write, num(3), Value{}, reason)
	}
	wantLock(t, m, p, false, reason)
	wantUnlock(t, m, p, reason)
}

func sameBlock(a, b Block) bool {
	return a.Live == b.Live && slices.Equal(a.Cells, b.Cells) && slices.Equal(a.Readers, b.Readers) && slices.Equal(a.Writer, b.Writer)
}

func wantBlocks(t *testing.T, m *Memory, want ...Block) {
	t.Helper()
	if is := m.Blocks(); !slices.EqualFunc(is, want, sameBlock) {
		t.Errorf("P6.6: Blocks: %v, want %v", is, want)
	}
}

// wantUnchanged: the call leaves all that can be told as it was.
func wantUnchanged(t *testing.T, m *Memory, call func()) {
	t.Helper()
	blocks, used := m.Blocks(), m.Used()
	call()
	if is := m.Blocks(); !slices.EqualFunc(is, blocks, sameBlock) || m.Used() != used {
		t.Errorf("a refused call changed the blocks from %v to %v, the cells that count from %d to %d", blocks, is, used, m.Used())
	}
}

func TestNumbers(t *testing.T) {
	if !slices.Equal([]Kind{Poison, Int, Ptr}, []Kind{0, 1, 2}) {
		t.Errorf("layer 6: the kinds aren't numbered from 0 on in their order")
	}
	if !slices.Equal([]Stuck{Fine, Type, Gone, Bounds, Empty, Inside, Race}, []Stuck{0, 1, 2, 3, 4, 5, 6}) {
		t.Errorf("layer 6: the reasons aren't numbered from 0 on in their order")
	}
}

func TestP61Ordinary(t *testing.T) {
	m := New()
	if m.Used() != 0 || len(m.Blocks()) != 0 {
		t.Errorf("P6.1: of a new memory %d cells count, and it has %d blocks", m.Used(), len(m.Blocks()))
	}
	wantBlock(t, m, 2, 1)
	wantBlock(t, m, 0, 2)
	wantBlock(t, m, 1, 3)
	if m.Used() != 6 {
		t.Errorf("P6.1: %d cells count, want 6", m.Used())
	}
	wantBlocks(t, m,
		Block{true, make([]Value, 2), make([]int, 2), make([]bool, 2)},
		Block{Live: true},
		Block{true, make([]Value, 1), make([]int, 1), make([]bool, 1)})
}

func TestP61Sizes(t *testing.T) {
	m := New()
	for _, n := range []int64{-1, -2, math.MinInt64, math.MinInt64 + 1, -1 << 32, api.MaxBlock + 1, api.MaxCells, 1 << 32, 1<<32 + 1, math.MaxInt64 - 1, math.MaxInt64} {
		wantNoBlock(t, m, n)
	}
	wantBlock(t, m, 0, 1)
	wantBlock(t, m, api.MaxBlock, 2)
	wantBlock(t, m, api.MaxBlock-1, 3)
	if m.Used() != 1+257+256 {
		t.Errorf("P6.1: %d cells count, want 514", m.Used())
	}
	put(t, m, at(2, api.MaxBlock-1), num(9))
	wantRead(t, m, at(2, api.MaxBlock-1), num(9))
	wantNone(t, m, at(2, api.MaxBlock), Bounds)
}

// nearlyFull: a memory in which this many cells are left to be counted; every second block is freed.
func nearlyFull(t *testing.T, left int) *Memory {
	t.Helper()
	m := New()
	for i := 1; api.MaxCells-m.Used() > left; i++ {
		wantBlock(t, m, int64(min(api.MaxBlock, api.MaxCells-m.Used()-left-1)), i)
		if i%2 == 0 {
			wantFree(t, m, at(i, 0), Fine)
		}
	}
	if m.Used() != api.MaxCells-left {
		t.Fatalf("P6.1: %d cells count, want all but %d", m.Used(), left)
	}
	return m
}

func TestP61Room(t *testing.T) {
	for _, left := range []int{1, 2, 3, 100, api.MaxBlock, api.MaxBlock + 1} {
		m := nearlyFull(t, left)
		last := len(m.Blocks()) + 1
		wantNoBlock(t, m, int64(left))
		wantNoBlock(t, m, int64(left)+1)
		wantBlock(t, m, int64(left)-1, last)
		wantNoBlock(t, m, 0)
		wantFree(t, m, at(last, 0), Fine)
		wantNoBlock(t, m, 0)
		wantNoBlock(t, m, -1)
		if m.Used() != api.MaxCells {
			t.Errorf("P6.1: %d cells count, want %d", m.Used(), api.MaxCells)
		}
	}
	m := New()
	for i := range api.MaxCells {
		wantBlock(t, m, 0, i+1)
	}
	wantNoBlock(t, m, 0)
}

// TestP61Full: a memory that takes no block more can still be used.
func TestP61Full(t *testing.T) {
	m := nearlyFull(t, 0)
	wantNoBlock(t, m, 0)
	put(t, m, at(1, 7), num(7))
	wantRead(t, m, at(1, 7), num(7))
	wantFree(t, m, at(1, 0), Fine)
	wantNoBlock(t, m, 0)
}

func TestP62Ordinary(t *testing.T) {
	m := made(t, 2, 1, 0)
	put(t, m, at(1, 1), num(5))
	wantFree(t, m, at(1, 0), Fine)
	if m.Used() != 6 {
		t.Errorf("P6.1: %d cells count when a block is freed, want 6", m.Used())
	}
	wantBlocks(t, m,
		Block{false, []Value{{}, num(5)}, make([]int, 2), make([]bool, 2)},
		Block{true, make([]Value, 1), make([]int, 1), make([]bool, 1)},
		Block{Live: true})
	wantFree(t, m, at(1, 0), Gone)
	wantFree(t, m, at(3, 0), Fine)
	wantFree(t, m, at(3, 0), Gone)
	put(t, m, at(2, 0), num(6))
	wantRead(t, m, at(2, 0), num(6))
	wantBlock(t, m, 1, 4)
	wantEmpty(t, m, at(4, 0))
}

func TestP62Reasons(t *testing.T) {
	m := made(t, 2, 1)
	wantFree(t, m, at(2, 0), Fine)
	for _, block := range []int{0, -1, 3, 4, math.MinInt, math.MaxInt, 1 << 32, 1<<32 + 1} {
		wantFree(t, m, at(block, 0), Gone)
		wantFree(t, m, at(block, 1), Gone)
	}
	wantFree(t, m, at(2, 0), Gone)
	wantFree(t, m, at(2, 1), Gone)
	for _, n := range []int64{1, 2, 3, -1, math.MinInt64, math.MaxInt64, 1 << 32} {
		wantFree(t, m, at(1, n), Inside)
		for _, p := range noPointers(1, n) {
			wantFree(t, m, p, Type)
		}
	}
	for _, block := range []int{0, 1, 2, 3} {
		for _, p := range noPointers(block, 0) {
			wantFree(t, m, p, Type)
		}
	}
	wantFree(t, m, at(1, 0), Fine)
}

// TestP62Race: each cell of a block keeps it from being freed as long as it is read or written.
func TestP62Race(t *testing.T) {
	for n := range int64(3) {
		for _, write := range []bool{false, true} {
			m := made(t, 3, 3)
			wantBegin(t, m, at(1, n), write, Fine)
			wantFree(t, m, at(1, 0), Race)
			for _, other := range []int64{1, 3, -1} {
				wantFree(t, m, at(1, other), Inside)
			}
			for _, p := range noPointers(1, 0) {
				wantFree(t, m, p, Type)
			}
			wantFree(t, m, at(2, 0), Fine)
			m.End(at(1, n), write, num(1))
			wantFree(t, m, at(1, 0), Fine)
		}
	}
	m := holding(t, num(1))
	wantBegin(t, m, at(1, 0), false, Fine)
	wantBegin(t, m, at(1, 0), false, Fine)
	wantEnd(t, m, at(1, 0), false, Value{}, num(1), Fine)
	wantFree(t, m, at(1, 0), Race)
	wantEnd(t, m, at(1, 0), false, Value{}, num(1), Fine)
	wantFree(t, m, at(1, 0), Fine)
}

// TestMayBeUsed: the reasons for which what a pointer names may not be used, of each call, and their order.
func TestMayBeUsed(t *testing.T) {
	m := made(t, 3, 1, 0, 2)
	wantFree(t, m, at(2, 0), Fine)
	far := []int64{-1, -2, math.MinInt64, math.MaxInt64, 1 << 32, -1 << 32, 1<<32 + 1}
	for _, n := range append(far, 3, 4) {
		wantNone(t, m, at(1, n), Bounds)
	}
	for _, n := range append(far, 0, 1) {
		wantNone(t, m, at(3, n), Bounds)
		wantNone(t, m, at(2, n), Gone)
	}
	for _, block := range []int{0, -1, 5, 6, math.MinInt, math.MaxInt, 1 << 32, 1<<32 + 1} {
		for _, n := range append(far, 0, 1) {
			wantNone(t, m, at(block, n), Gone)
		}
	}
	for _, block := range []int{0, 1, 2, 3, 5} {
		for _, n := range []int64{0, 3, -1} {
			for _, p := range noPointers(block, n) {
				wantNone(t, m, p, Type)
			}
		}
	}
	for _, p := range []Value{at(1, 0), at(1, 1), at(1, 2), at(4, 0), at(4, 1)} {
		put(t, m, p, num(p.N))
		wantRead(t, m, p, num(p.N))
	}
}

// TestAheadOfRace: the reasons come ahead of Race, where the cell is read or written, or would have to be.
func TestAheadOfRace(t *testing.T) {
	for _, write := range []bool{false, true} {
		m := made(t, 1, 1)
		wantBegin(t, m, at(1, 0), write, Fine)
		for _, p := range noPointers(1, 0) {
			wantNone(t, m, p, Type)
		}
		wantNone(t, m, at(1, 1), Bounds)
		wantNone(t, m, at(1, -1), Bounds)
		wantNone(t, m, at(3, 0), Gone)
		wantFree(t, m, at(2, 0), Fine)
		wantNone(t, m, at(2, 0), Gone)
	}
}

func TestP63Readers(t *testing.T) {
	m := made(t, 2)
	p := at(1, 0)
	for range 3 {
		wantBegin(t, m, p, false, Fine)
	}
	wantBegin(t, m, p, true, Race)
	wantBlocks(t, m, Block{true, make([]Value, 2), []int{3, 0}, make([]bool, 2)})
	wantBegin(t, m, at(1, 1), true, Fine)
	wantBlocks(t, m, Block{true, make([]Value, 2), []int{3, 0}, []bool{false, true}})
	for left := 2; left >= 0; left-- {
		wantEnd(t, m, p, false, Value{}, Value{}, Empty)
		wantBlocks(t, m, Block{true, make([]Value, 2), []int{left, 0}, []bool{false, true}})
	}
	wantBegin(t, m, p, true, Fine)
}

func TestP63Writer(t *testing.T) {
	m := made(t, 2)
	p := at(1, 1)
	wantBegin(t, m, p, true, Fine)
	wantBegin(t, m, p, true, Race)
	wantBegin(t, m, p, false, Race)
	wantBlocks(t, m, Block{true, make([]Value, 2), make([]int, 2), []bool{false, true}})
	wantBegin(t, m, at(1, 0), false, Fine)
	wantEnd(t, m, p, true, num(4), Value{}, Fine)
	wantBlocks(t, m, Block{true, []Value{{}, num(4)}, []int{1, 0}, make([]bool, 2)})
	wantBegin(t, m, p, false, Fine)
	wantBegin(t, m, p, false, Fine)
}

func TestP64Ordinary(t *testing.T) {
	m := made(t, 3)
	for i, v := range []Value{num(5), at(1, 2), num(0)} {
		p := at(1, int64(i))
		wantEmpty(t, m, p)
		put(t, m, p, v)
		wantRead(t, m, p, v)
		wantRead(t, m, p, v)
		put(t, m, p, num(-1))
		wantRead(t, m, p, num(-1))
	}
}

// TestP64TwoReads: two reads of one cell at a time, of which each tells what it holds; what is handed in beside a read doesn't count.
func TestP64TwoReads(t *testing.T) {
	m := holding(t, num(5))
	p := at(1, 0)
	wantBegin(t, m, p, false, Fine)
	wantBegin(t, m, p, false, Fine)
	for _, beside := range []Value{num(7), at(1, 0)} {
		wantEnd(t, m, p, true, num(6), Value{}, Race)
		wantEnd(t, m, p, false, beside, num(5), Fine)
	}
	wantEnd(t, m, p, false, num(7), Value{}, Race)
	wantRead(t, m, p, num(5))
}

func TestP64Race(t *testing.T) {
	for _, held := range []Value{{}, num(0), num(1), at(1, 0)} {
		m := holding(t, held)
		p := at(1, 0)
		wantEnd(t, m, p, false, num(2), Value{}, Race)
		wantEnd(t, m, p, true, num(2), Value{}, Race)
		wantBegin(t, m, p, true, Fine)
		wantEnd(t, m, p, false, num(2), Value{}, Race)
		wantEnd(t, m, p, true, held, Value{}, Fine)
		wantEnd(t, m, p, true, num(2), Value{}, Race)
		wantBegin(t, m, p, false, Fine)
		wantEnd(t, m, p, true, num(2), Value{}, Race)
		wantBlocks(t, m, Block{true, []Value{held}, []int{1}, []bool{false}})
	}
}

// TestP64Empty: the read of an empty cell is over, though nothing was read.
func TestP64Empty(t *testing.T) {
	m := made(t, 1)
	p := at(1, 0)
	wantBegin(t, m, p, false, Fine)
	wantEnd(t, m, p, false, num(3), Value{}, Empty)
	wantBlocks(t, m, Block{true, make([]Value, 1), make([]int, 1), make([]bool, 1)})
	wantEnd(t, m, p, false, num(3), Value{}, Race)
	put(t, m, p, num(3))
	wantRead(t, m, p, num(3))
	put(t, m, p, Value{})
	wantEmpty(t, m, p)
	wantFree(t, m, p, Fine)
}

// TestP64ByHand: values made by hand are taken with the fields that their Kind needs.
func TestP64ByHand(t *testing.T) {
	m := made(t, 1)
	p := at(1, 0)
	for _, n := range []int64{0, 1, -1, math.MinInt64, math.MaxInt64} {
		for _, block := range []int{0, 1, 2, -1, math.MinInt, math.MaxInt} {
			put(t, m, p, Value{Kind: Int, N: n, Block: block})
			wantBlocks(t, m, Block{true, []Value{num(n)}, []int{0}, []bool{false}})
			wantRead(t, m, p, num(n))
			put(t, m, p, at(block, n))
			wantBlocks(t, m, Block{true, []Value{at(block, n)}, []int{0}, []bool{false}})
			wantRead(t, m, p, at(block, n))
			for _, kind := range []Kind{Poison, Ptr + 1, -1, math.MinInt, math.MaxInt} {
				put(t, m, p, num(8))
				put(t, m, p, Value{Kind: kind, N: n, Block: block})
				wantBlocks(t, m, Block{true, []Value{{}}, []int{0}, []bool{false}})
				wantEmpty(t, m, p)
				wantLock(t, m, p, false, Empty)
				wantUnlock(t, m, p, Empty)
			}
		}
	}
}

func TestP65Ordinary(t *testing.T) {
	m := holding(t, num(0), num(0))
	p := at(1, 0)
	for range 2 {
		wantLock(t, m, p, true, Fine)
		wantRead(t, m, p, num(1))
		wantLock(t, m, p, false, Fine)
		wantLock(t, m, p, false, Fine)
		wantLock(t, m, at(1, 1), true, Fine)
		wantUnlock(t, m, at(1, 1), Fine)
		wantRead(t, m, p, num(1))
		wantUnlock(t, m, p, Fine)
		wantRead(t, m, p, num(0))
	}
	wantUnlock(t, m, p, Fine)
	wantRead(t, m, p, num(0))
	wantLock(t, m, p, true, Fine)
	wantFree(t, m, p, Fine)
	wantLock(t, m, p, false, Gone)
	wantUnlock(t, m, p, Gone)
}

// TestP65Held: a lock is had only of the Int 0; it is opened of each Int.
func TestP65Held(t *testing.T) {
	for _, n := range []int64{1, 2, -1, 1 << 32, 1 << 62, math.MinInt64, math.MaxInt64} {
		m := holding(t, Value{Kind: Int, N: n, Block: 3})
		p := at(1, 0)
		wantLock(t, m, p, false, Fine)
		wantRead(t, m, p, num(n))
		wantUnlock(t, m, p, Fine)
		wantRead(t, m, p, num(0))
		wantLock(t, m, p, true, Fine)
		wantRead(t, m, p, num(1))
	}
}

func TestP65Reasons(t *testing.T) {
	m := holding(t, Value{}, at(1, 0), at(0, 0), at(0, 1))
	for n, want := range []Stuck{Empty, Type, Type, Type} {
		wantLock(t, m, at(1, int64(n)), false, want)
		wantUnlock(t, m, at(1, int64(n)), want)
	}
}

// TestP65Race: Race comes ahead of Empty, and of the Type of what the cell holds.
func TestP65Race(t *testing.T) {
	for _, held := range []Value{{}, num(0), num(1), num(2), at(1, 0)} {
		for _, write := range []bool{false, true} {
			m := holding(t, held)
			p := at(1, 0)
			wantBegin(t, m, p, write, Fine)
			wantLock(t, m, p, false, Race)
			wantUnlock(t, m, p, Race)
			m.End(p, write, num(0))
			if held == num(0) || write {
				wantLock(t, m, p, true, Fine)
			}
		}
	}
	m := holding(t, num(0), num(0))
	wantBegin(t, m, at(1, 1), true, Fine)
	wantLock(t, m, at(1, 0), true, Fine)
	wantUnlock(t, m, at(1, 0), Fine)
}

func TestP66Blocks(t *testing.T) {
	m := made(t, 2, 0, 1)
	put(t, m, at(1, 0), num(4))
	put(t, m, at(3, 0), at(1, 1))
	wantBegin(t, m, at(1, 0), false, Fine)
	wantBegin(t, m, at(1, 0), false, Fine)
	wantBegin(t, m, at(1, 1), true, Fine)
	wantFree(t, m, at(3, 0), Fine)
	wantBlocks(t, m,
		Block{true, []Value{num(4), {}}, []int{2, 0}, []bool{false, true}},
		Block{Live: true},
		Block{false, []Value{at(1, 1)}, []int{0}, []bool{false}})
}

// smear writes to all that an answer holds, also behind its lists' lengths.
func smear(blocks []Block) {
	for i := range blocks {
		b := &blocks[i]
		b.Live = !b.Live
		b.Cells, b.Readers, b.Writer = b.Cells[:cap(b.Cells)], b.Readers[:cap(b.Readers)], b.Writer[:cap(b.Writer)]
		for j := range b.Cells {
			b.Cells[j] = num(99)
		}
		for j := range b.Readers {
			b.Readers[j] = 99
		}
		for j := range b.Writer {
			b.Writer[j] = true
		}
		*b = Block{}
	}
}

// TestP66NewMemory: what Blocks answers is the caller's: neither the memory, nor another answer, nor another block of this one hangs on it.
func TestP66NewMemory(t *testing.T) {
	m := made(t, 2, 3, 1, 0)
	put(t, m, at(2, 1), num(4))
	wantBegin(t, m, at(1, 1), false, Fine)
	wantBegin(t, m, at(2, 2), true, Fine)
	wantFree(t, m, at(3, 0), Fine)
	one, two := m.Blocks(), m.Blocks()
	smear(one)
	if !slices.EqualFunc(two, m.Blocks(), sameBlock) {
		t.Errorf("P6.6: an answer that is written to changes the memory, or another answer")
	}
	smear(two[:1])
	if !slices.EqualFunc(two[1:], m.Blocks()[1:], sameBlock) {
		t.Errorf("P6.6: a block of an answer that is written to changes another block of it")
	}
	kept := m.Blocks()
	m.End(at(1, 1), false, Value{})
	put(t, m, at(1, 1), num(6))
	m.Free(at(1, 0))
	m.Alloc(1)
	if len(kept) != 4 || !kept[0].Live || kept[0].Readers[1] != 1 || kept[0].Cells[1] != (Value{}) {
		t.Errorf("P6.6: what is done with the memory changes an answer of before: %v", kept)
	}
}

func TestP66Nil(t *testing.T) {
	var m *Memory
	for _, n := range []int64{0, 1, -1, api.MaxBlock, math.MinInt64, math.MaxInt64} {
		wantNoBlock(t, m, n)
	}
	for _, block := range []int{0, 1, -1, math.MinInt, math.MaxInt} {
		for _, n := range []int64{0, 1, -1, math.MinInt64, math.MaxInt64} {
			wantNone(t, m, at(block, n), Gone)
			wantFree(t, m, at(block, n), Gone)
			for _, p := range noPointers(block, n) {
				wantNone(t, m, p, Type)
				wantFree(t, m, p, Type)
			}
		}
	}
	if len(m.Blocks()) != 0 || m.Used() != 0 {
		t.Errorf("P6.6: a nil memory has %d blocks, and %d cells count", len(m.Blocks()), m.Used())
	}
}

// TestP2: two memories, used in turns, have nothing to do with one another.
func TestP2(t *testing.T) {
	a, b := New(), New()
	wantBlock(t, a, 1, 1)
	wantBlock(t, b, 2, 1)
	wantBlock(t, a, 1, 2)
	put(t, a, at(1, 0), num(0))
	wantEmpty(t, b, at(1, 0))
	put(t, b, at(1, 0), at(2, 0))
	wantRead(t, a, at(1, 0), num(0))
	wantNone(t, b, at(2, 0), Gone)
	wantBegin(t, a, at(1, 0), true, Fine)
	wantBegin(t, b, at(1, 0), true, Fine)
	wantEnd(t, a, at(1, 0), true, num(0), Value{}, Fine)
	wantEnd(t, b, at(1, 0), true, num(0), Value{}, Fine)
	wantLock(t, a, at(1, 0), true, Fine)
	wantLock(t, b, at(1, 0), true, Fine)
	wantUnlock(t, a, at(1, 0), Fine)
	wantRead(t, b, at(1, 0), num(1))
	wantFree(t, a, at(1, 0), Fine)
	wantRead(t, b, at(1, 0), num(1))
	if a.Used() != 4 || b.Used() != 3 {
		t.Errorf("P2: %d and %d cells count, want 4 and 3", a.Used(), b.Used())
	}
	full := nearlyFull(t, 0)
	wantNoBlock(t, full, 0)
	wantBlock(t, b, 1, 2)
}

func TestExamples(t *testing.T) {
	m := New()
	p, ok := m.Alloc(2)
	if p != at(1, 0) || !ok || m.Used() != 3 {
		t.Errorf("P6.1: Alloc(2): %v, %v, %d cells count", p, ok, m.Used())
	}
	wantBegin(t, m, p, true, Fine)
	wantBegin(t, m, p, false, Race)
	wantBegin(t, m, at(1, 1), false, Fine)
	wantEnd(t, m, at(1, 1), false, Value{}, Value{}, Empty)
}
