package heap

import (
	"math"
	"slices"
	"testing"

	"lychgate/api"
	"lychgate/diff"
)

func wantLoad(t *testing.T, h *Heap, p, index, want Sym) {
	t.Helper()
	wantKept(t, h, func() {
		if v, e := h.Load(p, index); v != want || e != api.OK {
			t.Errorf("P13.4: Load(%v, %v): %v, error %d; want %v", p, index, v, e, want)
		}
	})
}

// wantLoadFresh: of an Array nothing is known of what stands in it.
func wantLoadFresh(t *testing.T, h *Heap, p, index Sym) {
	t.Helper()
	next := h.Vars
	wantChange(t, h, func() {
		if v, e := h.Load(p, index); v != sum(next, 0) || e != api.OK {
			t.Errorf("P13.4: Load(%v, %v): %v, error %d; want the variable %d", p, index, v, e, next)
		}
	}, oneMore)
}

func wantNoLoad(t *testing.T, h *Heap, p, index Sym, want api.Errno) {
	t.Helper()
	wantKept(t, h, func() {
		if v, e := h.Load(p, index); v != (Sym{}) || e != want {
			t.Errorf("P13.4: Load(%v, %v): %v, error %d; want error %d", p, index, v, e, want)
		}
	})
}

// wantStore: the cell holds the value, and nothing else changes.
func wantStore(t *testing.T, h *Heap, p, index, v Sym) {
	t.Helper()
	wantChange(t, h, func() {
		if e := h.Store(p, index, v); e != api.OK {
			t.Errorf("P13.4: Store(%v, %v, %v): error %d", p, index, v, e)
		}
	}, func(h *Heap) { h.Chunks[p.Block].Cells[index.K] = v })
}

func wantStoreArray(t *testing.T, h *Heap, p, index, v Sym) {
	t.Helper()
	wantChange(t, h, func() {
		if e := h.Store(p, index, v); e != api.OK {
			t.Errorf("P13.4: Store(%v, %v, %v): error %d", p, index, v, e)
		}
	}, unchanged)
}

func wantNoStore(t *testing.T, h *Heap, p, index, v Sym, want api.Errno) {
	t.Helper()
	wantKept(t, h, func() {
		if e := h.Store(p, index, v); e != want {
			t.Errorf("P13.4: Store(%v, %v, %v): error %d, want %d", p, index, v, e, want)
		}
	})
}

// wantUnreached: neither a Load nor a Store reaches the cell, whatever is stored.
func wantUnreached(t *testing.T, h *Heap, p, index Sym, want api.Errno) {
	t.Helper()
	wantNoLoad(t, h, p, index, want)
	for _, v := range []Sym{{}, num(1), ptr(0)} {
		wantNoStore(t, h, p, index, v, want)
	}
}

// block: a chunk of this Origin that is there, with these cells; At is -1.
func block(origin Origin, cells ...Sym) Chunk {
	return Chunk{Origin: origin, At: -1, Live: true, Cells: cells}
}

func array(origin Origin, size Sym) Chunk {
	return Chunk{Origin: origin, Type: -1, At: -1, Live: true, Array: true, Size: size}
}

func TestP134Cells(t *testing.T) {
	for origin := Fresh; origin <= ReadInner; origin++ {
		c := block(origin, num(5), Sym{}, sum(1, -3), ptr(0))
		c.Held = origin == Locked
		h := heapOf(t, 2, c, c)
		wantLoad(t, h, ptr(0), num(0), num(5))
		wantNoLoad(t, h, ptr(0), num(1), api.ErrPoison)
		wantLoad(t, h, ptr(0), num(2), sum(1, -3))
		wantLoad(t, h, ptr(1), num(3), ptr(0))
		for _, index := range []Sym{num(4), num(5), num(-1), num(api.MaxNum), num(-api.MaxNum), sum(1, 0), sum(2, 1), sum(1, -1)} {
			wantNoLoad(t, h, ptr(0), index, api.ErrBounds)
		}
		if origin == Read || origin == ReadInner {
			wantNoStore(t, h, ptr(0), num(0), num(1), api.ErrWrite)
			wantNoStore(t, h, ptr(0), num(4), num(1), api.ErrWrite)
			wantNoStore(t, h, ptr(0), num(0), Sym{}, api.ErrWrite)
			continue
		}
		wantStore(t, h, ptr(0), num(1), num(-8))
		wantLoad(t, h, ptr(0), num(1), num(-8))
		wantNoLoad(t, h, ptr(1), num(1), api.ErrPoison)
		wantStore(t, h, ptr(0), num(1), ptr(1))
		wantStore(t, h, ptr(0), num(0), sum(2, api.MaxNum))
		wantStore(t, h, ptr(0), num(3), ptr(0))
		wantLoad(t, h, ptr(0), num(0), sum(2, api.MaxNum))
		wantNoStore(t, h, ptr(0), num(0), Sym{}, api.ErrPoison)
		wantNoStore(t, h, ptr(0), num(4), Sym{}, api.ErrBounds)
		wantNoStore(t, h, ptr(0), num(-1), num(1), api.ErrBounds)
		wantNoStore(t, h, ptr(0), sum(1, 0), num(1), api.ErrBounds)
	}
}

// TestP134IndexVariable: of a block with cells an index with a variable is outside, though the facts tell which number it is.
func TestP134IndexVariable(t *testing.T) {
	h := heapOf(t, 1, block(Fresh, num(1), num(2)))
	assume(t, h, le(1, 0, 1), le(0, 1, -1))
	wantUnreached(t, h, ptr(0), sum(1, 0), api.ErrBounds)
	wantUnreached(t, h, ptr(0), sum(1, -1), api.ErrBounds)
	wantLoad(t, h, ptr(0), num(1), num(2))
}

func TestP134NoCells(t *testing.T) {
	h := heapOf(t, 0, block(Fresh), block(Taken))
	for _, k := range []int64{0, 1, -1} {
		wantUnreached(t, h, ptr(0), num(k), api.ErrBounds)
		wantUnreached(t, h, ptr(1), num(k), api.ErrBounds)
	}
}

// TestP134ManyCells: each of many cells is one of its own, and behind the last one there is none.
func TestP134ManyCells(t *testing.T) {
	for _, many := range []int{1, 2, 3, 17, 100, api.MaxBlock} {
		h := heapOf(t, 0, block(Fresh, make([]Sym, many)...))
		for k := range int64(many) {
			wantNoLoad(t, h, ptr(0), num(k), api.ErrPoison)
			wantStore(t, h, ptr(0), num(k), num(-k))
		}
		for k := range int64(many) {
			wantLoad(t, h, ptr(0), num(k), num(-k))
		}
		for _, k := range []int64{int64(many), int64(many) + 1, -1, -int64(many)} {
			wantUnreached(t, h, ptr(0), num(k), api.ErrBounds)
		}
	}
}

// TestP134Order: where several reasons hold the first one that the chapter names is told.
func TestP134Order(t *testing.T) {
	gone := block(Read, num(1))
	gone.Live = false
	h := heapOf(t, 1, gone, block(Read, num(1)), block(Fresh, num(1)))
	for _, index := range []Sym{{}, ptr(0), num(0), num(7), sum(1, 0)} {
		wantUnreached(t, h, Sym{}, index, api.ErrPoison)
		wantUnreached(t, h, num(2), index, api.ErrType)
		wantUnreached(t, h, sum(1, 0), index, api.ErrType)
	}
	for _, block := range []int{0, 1, 2, 3, -1, math.MaxInt, math.MinInt} {
		wantUnreached(t, h, ptr(block), Sym{}, api.ErrPoison)
		wantUnreached(t, h, ptr(block), ptr(0), api.ErrType)
	}
	for _, block := range []int{0, 3, -1, math.MaxInt, math.MinInt} {
		for _, index := range []Sym{num(0), num(7), num(-1), sum(1, 0)} {
			wantUnreached(t, h, ptr(block), index, api.ErrGone)
		}
	}
	wantNoStore(t, h, ptr(1), num(7), Sym{}, api.ErrWrite)
	wantNoLoad(t, h, ptr(1), num(7), api.ErrBounds)
}

func TestP134Locked(t *testing.T) {
	for _, at := range []int{-1, 0, 1, 2, 5} {
		c := block(Locked, num(1), num(2), Sym{})
		c.At = at
		h := heapOf(t, 1, c)
		// Not held: no cell is reached, nor are the bounds looked at.
		for _, index := range []Sym{num(0), num(1), num(2), num(3), num(-1), sum(1, 0)} {
			wantUnreached(t, h, ptr(0), index, api.ErrHeld)
		}
		c.Held = true
		h = heapOf(t, 1, c)
		for k := range int64(3) {
			if k == int64(at) {
				wantUnreached(t, h, ptr(0), num(k), api.ErrHeld)
			} else {
				wantStore(t, h, ptr(0), num(k), num(9+k))
				wantLoad(t, h, ptr(0), num(k), num(9+k))
			}
		}
		// Where there is no cell, At is none either.
		for _, index := range []Sym{num(3), num(5), num(-1), sum(1, 0), sum(1, 1)} {
			wantUnreached(t, h, ptr(0), index, api.ErrBounds)
		}
	}
}

// TestP134AtOfOthers: of a chunk that isn't Locked the cell At is as the others, held or not.
func TestP134AtOfOthers(t *testing.T) {
	for _, origin := range []Origin{Fresh, Taken, Lent, Shared, Count, Inner} {
		for _, held := range []bool{false, true} {
			c := block(origin, num(1), num(2))
			c.At, c.Held = 1, held
			h := heapOf(t, 0, c)
			wantLoad(t, h, ptr(0), num(1), num(2))
			wantStore(t, h, ptr(0), num(1), num(3))
		}
	}
}

func TestP134Array(t *testing.T) {
	for _, origin := range []Origin{Fresh, Inner, Lent, Taken} {
		h := heapOf(t, 0, array(origin, num(3)))
		for k := range int64(3) {
			wantLoadFresh(t, h, ptr(0), num(k))
			wantStoreArray(t, h, ptr(0), num(k), num(-9))
			wantStoreArray(t, h, ptr(0), num(k), sum(1, 2))
			wantNoStore(t, h, ptr(0), num(k), Sym{}, api.ErrPoison)
			wantNoStore(t, h, ptr(0), num(k), ptr(0), api.ErrType)
		}
		for _, k := range []int64{-1, 3, 4, api.MaxNum, -api.MaxNum} {
			wantUnreached(t, h, ptr(0), num(k), api.ErrBounds)
		}
	}
}

// TestP134ArrayNone: an Array of no Ints has none.
func TestP134ArrayNone(t *testing.T) {
	for _, size := range []int64{0, -1, -api.MaxNum} {
		h := heapOf(t, 0, array(Fresh, num(size)))
		for _, k := range []int64{0, 1, -1, size, size - 1} {
			wantUnreached(t, h, ptr(0), num(max(k, -api.MaxNum)), api.ErrBounds)
		}
	}
}

func TestP134ArrayRead(t *testing.T) {
	for _, origin := range []Origin{Read, ReadInner} {
		h := heapOf(t, 0, array(origin, num(1)))
		wantLoadFresh(t, h, ptr(0), num(0))
		for _, v := range []Sym{{}, num(1), ptr(0)} {
			wantNoStore(t, h, ptr(0), num(0), v, api.ErrWrite)
			wantNoStore(t, h, ptr(0), num(1), v, api.ErrWrite)
		}
	}
}

// TestP134ArrayLocked: an Array has no cell At, but one that is Locked must be held.
func TestP134ArrayLocked(t *testing.T) {
	c := array(Locked, num(2))
	c.At = 1
	h := heapOf(t, 0, c)
	wantUnreached(t, h, ptr(0), num(1), api.ErrHeld)
	wantUnreached(t, h, ptr(0), num(2), api.ErrHeld)
	c.Held = true
	h = heapOf(t, 0, c)
	wantLoadFresh(t, h, ptr(0), num(1))
	wantStoreArray(t, h, ptr(0), num(1), num(1))
	wantUnreached(t, h, ptr(0), num(2), api.ErrBounds)
}

// TestP134ArrayFollows: an index that surely, maybe and surely not lies within the Array.
func TestP134ArrayFollows(t *testing.T) {
	for _, x := range []struct {
		size, index Sym
		facts       []diff.Leq
		in          bool
	}{
		{sum(1, 0), sum(2, 0), nil, false},
		{sum(1, 0), sum(2, 0), []diff.Leq{le(0, 2, 0)}, false},
		{sum(1, 0), sum(2, 0), []diff.Leq{le(2, 1, -1)}, false},
		{sum(1, 0), sum(2, 0), []diff.Leq{le(0, 2, 0), le(2, 1, -1)}, true},
		{sum(1, 0), sum(2, 0), []diff.Leq{le(0, 2, 0), le(2, 1, 0)}, false},
		{sum(1, 0), sum(2, 0), []diff.Leq{le(0, 2, 1), le(2, 1, -1)}, false},
		{sum(1, 0), sum(2, 1), []diff.Leq{le(0, 2, 0), le(2, 1, -1)}, false},
		{sum(1, 0), sum(2, 1), []diff.Leq{le(0, 2, 1), le(2, 1, -2)}, true},
		{sum(1, 1), sum(2, 1), []diff.Leq{le(0, 2, 1), le(2, 1, -1)}, true},
		{sum(1, 1), sum(2, 0), []diff.Leq{le(0, 2, 0), le(2, 1, 0)}, true},
		{sum(1, -1), sum(2, 0), []diff.Leq{le(0, 2, 0), le(2, 1, -1)}, false},
		{sum(1, -1), sum(2, -1), []diff.Leq{le(0, 2, -1), le(2, 1, -1)}, true},
		{sum(1, 0), num(0), nil, false},
		{sum(1, 0), num(0), []diff.Leq{le(0, 1, -1)}, true},
		{sum(1, 0), num(3), []diff.Leq{le(0, 1, -3)}, false},
		{sum(1, 0), num(3), []diff.Leq{le(0, 1, -4)}, true},
		{sum(1, 0), num(-1), []diff.Leq{le(0, 1, -4)}, false},
		{num(4), sum(2, 0), []diff.Leq{le(0, 2, 0), le(2, 0, 3)}, true},
		{num(4), sum(2, 0), []diff.Leq{le(0, 2, 0), le(2, 0, 4)}, false},
		{num(4), sum(2, 0), []diff.Leq{le(0, 2, -9)}, false},
		{num(4), sum(2, 0), []diff.Leq{le(2, 0, -9)}, false},
		// By way of a third one.
		{sum(1, 0), sum(2, 0), []diff.Leq{le(0, 2, 0), le(2, 3, 0), le(3, 1, -1)}, true},
		{sum(1, 0), sum(1, -1), []diff.Leq{le(0, 1, -1)}, true},
		{sum(1, 0), sum(1, -1), []diff.Leq{le(0, 1, 0)}, false},
		{sum(1, 0), sum(1, 0), []diff.Leq{le(0, 1, 0)}, false},
		// Far away from 0, and of facts that can't hold together all follows.
		{num(api.MaxNum), num(api.MaxNum - 1), nil, true},
		{num(api.MaxNum), num(api.MaxNum), nil, false},
		{num(-api.MaxNum), num(api.MaxNum), nil, false},
		{sum(1, 0), sum(2, -7), []diff.Leq{le(0, 0, -1)}, true},
	} {
		h := heapOf(t, 3, array(Inner, x.size))
		assume(t, h, x.facts...)
		if x.in {
			wantLoadFresh(t, h, ptr(0), x.index)
			wantStoreArray(t, h, ptr(0), x.index, num(1))
		} else {
			wantUnreached(t, h, ptr(0), x.index, api.ErrBounds)
		}
	}
}

// TestP134ArrayMeans: an Array has a cell at the index just where all numbers that fulfil the facts say so.
func TestP134ArrayMeans(t *testing.T) {
	const far = 3
	narrow := []diff.Leq{le(1, 0, far), le(0, 1, far), le(2, 0, far), le(0, 2, far)}
	fit := func(facts []diff.Leq, of []int64) bool {
		return !slices.ContainsFunc(facts, func(f diff.Leq) bool { return of[f.X]-of[f.Y] > f.C })
	}
	always := func(facts []diff.Leq, size, index Sym) bool {
		for a := int64(-far); a <= far; a++ {
			for b := int64(-far); b <= far; b++ {
				of := []int64{0, a, b}
				at, length := of[index.Var]+index.K, of[size.Var]+size.K
				if fit(facts, of) && (at < 0 || at >= length) {
					return false
				}
			}
		}
		return true
	}
	for _, size := range []Sym{sum(1, 0), sum(1, 2), sum(2, -1), num(2)} {
		for _, index := range []Sym{sum(2, 0), sum(2, 1), sum(1, -1), num(0), num(1)} {
			for c := int64(-2); c <= 2; c++ {
				for d := int64(-2); d <= 2; d++ {
					for _, own := range [][]diff.Leq{{le(2, 1, c), le(0, 2, d)}, {le(0, 1, c), le(1, 2, d)}, {le(1, 0, c), le(0, 2, d)}} {
						h := heapOf(t, 2, array(Taken, size))
						facts := append(slices.Clone(narrow), own...)
						assume(t, h, facts...)
						want := api.ErrBounds
						if always(facts, size, index) {
							want = api.OK
						}
						if e := h.Store(ptr(0), index, num(0)); e != want {
							t.Fatalf("P13.4: an Array of %v at %v, with %v: error %d, want %d", size, index, own, e, want)
						}
					}
				}
			}
		}
	}
}

// TestP134ArrayFull: of an Array comes what Fresh answers; where nothing can be asked no index follows to lie within.
func TestP134ArrayFull(t *testing.T) {
	h := heapOf(t, api.MaxVars-1, array(Fresh, num(2)))
	wantNoLoad(t, h, ptr(0), num(1), api.ErrMany)
	wantNoLoad(t, h, ptr(0), num(2), api.ErrBounds)
	wantStoreArray(t, h, ptr(0), num(1), num(1))
	h = heapOf(t, 1, array(Fresh, num(2)))
	fill(t, h, api.MaxFacts-2)
	wantLoadFresh(t, clone(h), ptr(0), num(1))
	fill(t, h, api.MaxFacts-1)
	wantNoLoad(t, h, ptr(0), num(1), api.ErrMany)
	wantStoreArray(t, h, ptr(0), num(1), num(1))
	fill(t, h, api.MaxFacts)
	wantUnreached(t, h, ptr(0), num(1), api.ErrBounds)
}

// TestP134CellsFull: a block with cells is reached, however many facts there are.
func TestP134CellsFull(t *testing.T) {
	h := heapOf(t, api.MaxVars-1, block(Fresh, num(2)))
	fill(t, h, api.MaxFacts)
	wantLoad(t, h, ptr(0), num(0), num(2))
	wantStore(t, h, ptr(0), num(0), num(3))
}

func wantFree(t *testing.T, h *Heap, p Sym) {
	t.Helper()
	wantChange(t, h, func() {
		if e := h.Free(p); e != api.OK {
			t.Errorf("P13.5: Free(%v): error %d", p, e)
		}
	}, func(h *Heap) { h.Chunks[p.Block].Live = false })
}

func wantNoFree(t *testing.T, h *Heap, p Sym, want api.Errno) {
	t.Helper()
	wantKept(t, h, func() {
		if e := h.Free(p); e != want {
			t.Errorf("P13.5: Free(%v): error %d, want %d", p, e, want)
		}
	})
}

func TestP135Free(t *testing.T) {
	want := map[Origin]api.Errno{
		Fresh: api.OK, Taken: api.OK, Count: api.OK, Inner: api.OK,
		Read: api.ErrWrite, ReadInner: api.ErrWrite,
		Lent: api.ErrGone, Shared: api.ErrGone, Locked: api.ErrGone,
	}
	for i, c := range someChunks() {
		h := heapOf(t, 1, block(Fresh, num(1)), c, block(Fresh, num(1)))
		switch {
		case !c.Live:
			wantNoFree(t, h, ptr(1), api.ErrGone)
		case want[c.Origin] == api.OK:
			wantFree(t, h, ptr(1))
			wantNoFree(t, h, ptr(1), api.ErrGone)
			wantUnreached(t, h, ptr(1), num(0), api.ErrGone)
		default:
			wantNoFree(t, h, ptr(1), want[c.Origin])
		}
		if i == 0 {
			wantFree(t, h, ptr(2))
		}
		wantLoad(t, h, ptr(0), num(0), num(1))
	}
}

func TestP135FreeNone(t *testing.T) {
	gone := block(Read, num(1))
	gone.Live = false
	h := heapOf(t, 1, gone, block(Taken))
	wantNoFree(t, h, Sym{}, api.ErrPoison)
	wantNoFree(t, h, num(1), api.ErrType)
	wantNoFree(t, h, sum(1, 0), api.ErrType)
	for _, block := range []int{0, 2, -1, math.MaxInt, math.MinInt} {
		wantNoFree(t, h, ptr(block), api.ErrGone)
	}
	wantNoFree(t, &Heap{Vars: 1}, ptr(0), api.ErrGone)
}

// wantLock: the chunk is held then, the cells but that at At are fresh, and these facts are assumed.
func wantLock(t *testing.T, h *Heap, p Sym, n int64, facts []diff.Leq, assumed ...diff.Leq) {
	t.Helper()
	wantChange(t, h, func() {
		if e := h.Lock(p, n, facts); e != api.OK {
			t.Errorf("P13.6: Lock(%v, %d): error %d", p, n, e)
		}
	}, func(h *Heap) {
		c := &h.Chunks[p.Block]
		for i := range c.Cells {
			if i != c.At {
				c.Cells[i] = sum(h.Vars, 0)
				oneMore(h)
			}
		}
		h.Facts = append(h.Facts, assumed...)
		c.Held = true
	})
}

func wantNoLock(t *testing.T, h *Heap, p Sym, n int64, facts []diff.Leq, want api.Errno) {
	t.Helper()
	wantKept(t, h, func() {
		if e := h.Lock(p, n, facts); e != want {
			t.Errorf("P13.6: Lock(%v, %d): error %d, want %d", p, n, e, want)
		}
	})
}

// wantUnlock: the chunk isn't held then, and no cell holds anything.
func wantUnlock(t *testing.T, h *Heap, p Sym, n int64, facts []diff.Leq) {
	t.Helper()
	wantChange(t, h, func() {
		if e := h.Unlock(p, n, facts); e != api.OK {
			t.Errorf("P13.6: Unlock(%v, %d): error %d", p, n, e)
		}
	}, func(h *Heap) {
		c := &h.Chunks[p.Block]
		c.Cells, c.Held = make([]Sym, len(c.Cells)), false
	})
}

func wantNoUnlock(t *testing.T, h *Heap, p Sym, n int64, facts []diff.Leq, want api.Errno) {
	t.Helper()
	wantKept(t, h, func() {
		if e := h.Unlock(p, n, facts); e != want {
			t.Errorf("P13.6: Unlock(%v, %d): error %d, want %d", p, n, e, want)
		}
	})
}

// closed is a lock that isn't held, held one that is.
func closed(at int, cells ...Sym) Chunk {
	c := block(Locked, cells...)
	c.At = at
	return c
}

func held(at int, cells ...Sym) Chunk {
	c := closed(at, cells...)
	c.Held = true
	return c
}

func TestP136Example(t *testing.T) {
	h := heapOf(t, 0, closed(0, Sym{}, Sym{}))
	wantNoLoad(t, h, ptr(0), num(1), api.ErrHeld)
	wantLock(t, h, ptr(0), 0, nil)
	wantLoad(t, h, ptr(0), num(1), sum(1, 0))
	wantNoLoad(t, h, ptr(0), num(0), api.ErrHeld)
}

func TestP136Lock(t *testing.T) {
	none := Sym{}
	facts := []diff.Leq{le(1, 3, 2), le(0, 3, 0), le(2, 1, 5)}
	h := heapOf(t, 2, block(Fresh), closed(1, none, none, none))
	wantLock(t, h, ptr(1), 1, facts, le(3, 4, 2), le(0, 4, 0), le(0, 3, 5))
	wantEntails(t, h, le(3, 4, 2), true)
	// The cell at At stays as it is, and its facts are of what it holds.
	h = heapOf(t, 2, closed(1, num(4), sum(2, 7), ptr(0)))
	wantLock(t, h, ptr(0), 1, facts, le(3, 4, 2), le(0, 4, 0), le(2, 3, -2))
	h = heapOf(t, 2, closed(1, num(4), ptr(0), ptr(0)))
	wantLock(t, h, ptr(0), 1, facts, le(3, 4, 2), le(0, 4, 0), le(0, 3, 5))
	// At the first cell, at the last one, alone, and without a cell of it.
	wantLock(t, heapOf(t, 0, closed(0, none, none)), ptr(0), 0, nil)
	wantLock(t, heapOf(t, 0, closed(2, none, none, none)), ptr(0), 2, nil)
	wantLock(t, heapOf(t, 0, closed(0, none)), ptr(0), 0, []diff.Leq{le(1, 0, 3)}, le(0, 0, 3))
	wantLock(t, heapOf(t, 0, closed(-1, none, none)), ptr(0), -1, []diff.Leq{le(1, 2, 3)}, le(1, 2, 3))
	wantLock(t, heapOf(t, 0, closed(7, none, none)), ptr(0), 7, nil)
	wantLock(t, heapOf(t, 0, closed(0)), ptr(0), 0, nil)
	// Facts that can't hold are assumed too.
	h = heapOf(t, 0, closed(0, none, none))
	wantLock(t, h, ptr(0), 0, []diff.Leq{le(2, 2, -1)}, le(1, 1, -1))
	wantDead(t, h, true)
}

// TestP136LockErrors: each reason, and that the first one is told where several hold.
func TestP136LockErrors(t *testing.T) {
	h := heapOf(t, 1, closed(1, num(1), num(2)), held(1, num(1), num(2)), block(Taken, num(1), num(2)))
	h.Chunks[2].At = 1
	gone := closed(1, num(1), num(2))
	gone.Live = false
	h.Put(gone)
	for _, n := range []int64{1, 0, -1} {
		wantNoLock(t, h, Sym{}, n, nil, api.ErrPoison)
		wantNoUnlock(t, h, Sym{}, n, nil, api.ErrPoison)
		for _, p := range []Sym{num(0), num(1), sum(1, 0)} {
			wantNoLock(t, h, p, n, nil, api.ErrType)
			wantNoUnlock(t, h, p, n, nil, api.ErrType)
		}
		for _, block := range []int{3, 4, -1, math.MaxInt, math.MinInt} {
			wantNoLock(t, h, ptr(block), n, nil, api.ErrGone)
			wantNoUnlock(t, h, ptr(block), n, nil, api.ErrGone)
		}
		wantNoLock(t, h, ptr(1), n, nil, api.ErrHeld)
		wantNoLock(t, h, ptr(2), n, nil, api.ErrHeld)
		wantNoUnlock(t, h, ptr(0), n, nil, api.ErrHeld)
		wantNoUnlock(t, h, ptr(2), n, nil, api.ErrHeld)
	}
	for _, n := range []int64{0, 2, -1, math.MaxInt64, math.MinInt64, 1 << 32, 1<<32 + 1} {
		wantNoLock(t, h, ptr(0), n, nil, api.ErrBounds)
		wantNoUnlock(t, h, ptr(1), n, nil, api.ErrBounds)
	}
	wantLock(t, h, ptr(0), 1, nil)
	wantUnlock(t, h, ptr(0), 1, nil)
}

// TestP136OthersHeld: a chunk that isn't Locked can't be locked or opened, whether it is held or not.
func TestP136OthersHeld(t *testing.T) {
	for origin := Fresh; origin <= ReadInner; origin++ {
		for _, isHeld := range []bool{false, true} {
			if origin == Locked {
				continue
			}
			c := held(0, num(1), num(2))
			c.Origin, c.Held = origin, isHeld
			h := heapOf(t, 0, c)
			wantNoLock(t, h, ptr(0), 0, nil, api.ErrHeld)
			wantNoUnlock(t, h, ptr(0), 0, nil, api.ErrHeld)
			wantNoLock(t, h, ptr(0), 1, nil, api.ErrHeld)
			wantNoUnlock(t, h, ptr(0), 1, nil, api.ErrHeld)
		}
	}
}

// TestP136LockFull: with too many variables or facts nothing changes, not even where some of them had room.
func TestP136LockFull(t *testing.T) {
	none := Sym{}
	three := closed(1, none, none, none, none)
	wantLock(t, heapOf(t, api.MaxVars-4, three), ptr(0), 1, nil)
	wantNoLock(t, heapOf(t, api.MaxVars-3, three), ptr(0), 1, nil, api.ErrMany)
	wantNoLock(t, heapOf(t, api.MaxVars-1, three), ptr(0), 1, nil, api.ErrMany)
	wantLock(t, heapOf(t, api.MaxVars-1, closed(0, none)), ptr(0), 0, nil)
	for room, want := range map[int]api.Errno{0: api.ErrMany, 5: api.ErrMany, 6: api.ErrMany, 7: api.ErrMany, 8: api.OK, 9: api.OK} {
		h := heapOf(t, 1, three)
		fill(t, h, api.MaxFacts-room)
		if want == api.OK {
			wantLock(t, h, ptr(0), 1, trivial(2), le(0, 0, 0), le(0, 0, 0))
		} else {
			wantNoLock(t, h, ptr(0), 1, trivial(2), want)
		}
	}
	h := heapOf(t, 1, three, three)
	fill(t, h, api.MaxFacts-6)
	wantLock(t, h, ptr(1), 1, nil)
	wantNoLock(t, h, ptr(0), 1, nil, api.ErrMany)
	wantNoLock(t, h, ptr(0), 0, nil, api.ErrBounds)
	wantNoLock(t, h, ptr(1), 1, nil, api.ErrHeld)
}

func TestP136Unlock(t *testing.T) {
	facts := []diff.Leq{le(1, 3, 2)}
	for _, x := range []struct {
		first, last Sym
		want        api.Errno
	}{
		{num(5), num(3), api.OK},
		{num(6), num(3), api.ErrOwed},
		{num(-9), num(-11), api.OK},
		{sum(1, 0), sum(2, 0), api.OK},
		{sum(1, 1), sum(2, 0), api.ErrOwed},
		{sum(1, 1), sum(2, 1), api.OK},
		{sum(2, 0), sum(1, 0), api.ErrOwed},
		{sum(1, 0), sum(1, -2), api.OK},
		{sum(1, 0), sum(1, -3), api.ErrOwed},
		{sum(1, 0), num(0), api.ErrOwed},
		{Sym{}, num(3), api.ErrOwed},
		{num(-5), Sym{}, api.ErrOwed},
		{ptr(0), num(3), api.ErrOwed},
		{num(-5), ptr(0), api.ErrOwed},
	} {
		for _, middle := range []Sym{{}, num(900), ptr(0), sum(2, 1)} {
			h := heapOf(t, 2, held(1, x.first, middle, x.last))
			assume(t, h, le(1, 2, 2))
			if x.want != api.OK {
				wantNoUnlock(t, h, ptr(0), 1, facts, x.want)
				continue
			}
			wantUnlock(t, h, ptr(0), 1, facts)
			wantNoUnlock(t, h, ptr(0), 1, facts, api.ErrHeld)
			wantUnreached(t, h, ptr(0), num(0), api.ErrHeld)
		}
	}
}

// TestP136UnlockAt: the cell at At may hold anything; the facts that name it are of what it holds, or of the number 0.
func TestP136UnlockAt(t *testing.T) {
	facts := []diff.Leq{le(1, 2, 0)}
	for at, want := range map[Sym]api.Errno{{}: api.OK, ptr(0): api.OK, num(0): api.OK, num(-2): api.OK, num(4): api.ErrOwed, num(3): api.OK, sum(1, 0): api.ErrOwed} {
		h := heapOf(t, 1, held(0, at, num(3)))
		if want == api.OK {
			wantUnlock(t, h, ptr(0), 0, facts)
		} else {
			wantNoUnlock(t, h, ptr(0), 0, facts, want)
		}
	}
	// Without a cell at At all are looked at, and without cells none.
	wantNoUnlock(t, heapOf(t, 0, held(-1, num(1), Sym{})), ptr(0), -1, nil, api.ErrOwed)
	wantUnlock(t, heapOf(t, 0, held(-1, num(1), num(2))), ptr(0), -1, nil)
	wantUnlock(t, heapOf(t, 0, held(5, num(1), num(2))), ptr(0), 5, nil)
	wantNoUnlock(t, heapOf(t, 0, held(5, ptr(0), num(2))), ptr(0), 5, nil, api.ErrOwed)
	wantUnlock(t, heapOf(t, 0, held(0)), ptr(0), 0, nil)
	wantUnlock(t, heapOf(t, 0, held(0, num(1))), ptr(0), 0, nil)
}

// TestP136UnlockFacts: each of the facts must follow, the last one too.
func TestP136UnlockFacts(t *testing.T) {
	good, bad := le(1, 2, 0), le(2, 1, 0)
	for want, lists := range map[api.Errno][][]diff.Leq{
		api.OK:      {nil, {good}, {good, good, good}},
		api.ErrOwed: {{bad}, {good, bad}, {bad, good}, {good, bad, good}},
	} {
		for _, facts := range lists {
			h := heapOf(t, 0, held(2, num(1), num(2), Sym{}))
			if want == api.OK {
				wantUnlock(t, h, ptr(0), 2, facts)
			} else {
				wantNoUnlock(t, h, ptr(0), 2, facts, want)
			}
		}
	}
}

// TestP136UnlockUnasked: what can't be asked doesn't follow.
func TestP136UnlockUnasked(t *testing.T) {
	full := func(many int) *Heap {
		h := heapOf(t, 0, held(0, Sym{}, num(1)))
		fill(t, h, many)
		return h
	}
	wantUnlock(t, full(api.MaxFacts-1), ptr(0), 0, trivial(1))
	wantNoUnlock(t, full(api.MaxFacts), ptr(0), 0, trivial(1), api.ErrOwed)
	wantUnlock(t, full(api.MaxFacts), ptr(0), 0, nil)
	far := heapOf(t, 0, held(0, Sym{}, num(-1)))
	wantNoUnlock(t, far, ptr(0), 0, []diff.Leq{le(2, 0, api.MaxDiff)}, api.ErrOwed)
	wantNoUnlock(t, far, ptr(0), 0, []diff.Leq{le(2, 0, api.MaxDiff-1)}, api.ErrOwed)
	wantUnlock(t, far, ptr(0), 0, []diff.Leq{le(2, 0, api.MaxDiff-2)})
}

// TestP136Round: what a Lock assumes follows at the Unlock, and what is stored counts.
func TestP136Round(t *testing.T) {
	none := Sym{}
	facts := []diff.Leq{le(0, 2, 0), le(2, 3, 0)}
	h := heapOf(t, 0, closed(0, none, none, none))
	wantLock(t, h, ptr(0), 0, facts, le(0, 1, 0), le(1, 2, 0))
	wantUnlock(t, h, ptr(0), 0, facts)
	wantLock(t, h, ptr(0), 0, facts, le(0, 3, 0), le(3, 4, 0))
	wantStore(t, h, ptr(0), num(1), num(-1))
	wantNoUnlock(t, h, ptr(0), 0, facts, api.ErrOwed)
	wantStore(t, h, ptr(0), num(1), sum(4, 1))
	wantNoUnlock(t, h, ptr(0), 0, facts, api.ErrOwed)
	wantStore(t, h, ptr(0), num(2), sum(4, 1))
	wantUnlock(t, h, ptr(0), 0, facts)
}
