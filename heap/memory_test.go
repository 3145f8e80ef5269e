package heap

import (
	"math"
	"slices"
	"testing"

	"lychgate/api"
	"lychgate/diff"
)

// rich: a heap with all that a heap may have.
func rich(t *testing.T) *Heap {
	t.Helper()
	h := heapOf(t, 3, someChunks()...)
	h.Put(closed(0, num(1), Sym{}))
	h.Put(held(1, num(1), num(2)))
	h.Put(array(Taken, num(2)))
	assume(t, h, le(1, 2, -1), le(2, 3, 4))
	return h
}

// Of a rich heap: the block 0 has cells that may be written, and these are the others that changes ask for.
var (
	toLock   = ptr(4 * (int(ReadInner) + 1))
	toUnlock = ptr(toLock.Block + 1)
	toArray  = ptr(toLock.Block + 2)
)

// changes: all by which a rich heap changes; each tells its error.
func changes() map[string]func(h *Heap) api.Errno {
	return map[string]func(h *Heap) api.Errno{
		"Fresh":  func(h *Heap) api.Errno { _, e := h.Fresh(); return e },
		"Assume": func(h *Heap) api.Errno { return h.Assume(le(3, 1, 5), le(0, 0, -1)) },
		"Add":    func(h *Heap) api.Errno { _, e := h.Add(num(api.MaxNum), 1); return e },
		"Put":    func(h *Heap) api.Errno { h.Put(block(Fresh, num(1))); return api.OK },
		"Load":   func(h *Heap) api.Errno { _, e := h.Load(toArray, num(1)); return e },
		"Store":  func(h *Heap) api.Errno { return h.Store(ptr(0), num(1), num(77)) },
		"Free":   func(h *Heap) api.Errno { return h.Free(ptr(0)) },
		"Lock":   func(h *Heap) api.Errno { return h.Lock(toLock, 0, []diff.Leq{le(2, 0, 1)}) },
		"Unlock": func(h *Heap) api.Errno { return h.Unlock(toUnlock, 1, []diff.Leq{le(1, 0, 1)}) },
	}
}

func TestP131Copy(t *testing.T) {
	full := heapOf(t, api.MaxVars-1)
	fill(t, full, api.MaxFacts)
	for _, h := range []*Heap{{Vars: 1}, heapOf(t, 1), heapOf(t, 0, block(Fresh)), rich(t), full} {
		wantKept(t, h, func() {
			if twin := h.Copy(); twin == h || !sameHeap(twin, h) {
				t.Errorf("P13.1: the copy of %+v is %+v", h, twin)
			}
		})
	}
}

// TestP131CopyApart: whichever of the two is changed, the other one stays as it was.
func TestP131CopyApart(t *testing.T) {
	for name, change := range changes() {
		for name2, change2 := range changes() {
			h := rich(t)
			twin := h.Copy()
			before := clone(h)
			if e := change(h); e != api.OK || sameHeap(h, before) {
				t.Fatalf("%s: error %d, or nothing changed", name, e)
			}
			if !sameHeap(twin, before) {
				t.Fatalf("P13.1: %s of a heap changed its copy", name)
			}
			after := clone(h)
			if e := change2(twin); e != api.OK || sameHeap(twin, before) {
				t.Fatalf("%s: error %d, or nothing changed", name2, e)
			}
			if !sameHeap(h, after) {
				t.Fatalf("P13.1: %s of a copy changed what it was made of", name2)
			}
			// A copy does what the heap does that it is a copy of.
			again := before.Copy()
			if change(again); !sameHeap(again, h) {
				t.Fatalf("P13.1: %s of a copy makes %+v, want %+v", name, again, h)
			}
		}
	}
}

// TestP131CopyWritten: no list of a copy is one of what it was made of, behind their lengths either.
func TestP131CopyWritten(t *testing.T) {
	for range 2 {
		h := rich(t)
		twin := h.Copy()
		before := clone(h)
		for i := range twin.Chunks {
			for j := range twin.Chunks[i].Cells {
				twin.Chunks[i].Cells[j] = num(-77)
			}
			_ = append(twin.Chunks[i].Cells, num(-77))
			twin.Chunks[i].Size = num(-77)
		}
		for i := range twin.Facts {
			twin.Facts[i] = le(0, 0, -77)
		}
		if !sameHeap(h, before) {
			t.Errorf("P13.1: what is written into a copy is seen in the heap")
		}
		_ = append(h.Facts, le(1, 1, 1))
		_ = append(h.Chunks, block(Read))
		other := h.Copy()
		assume(t, h, le(1, 0, 5))
		assume(t, other, le(1, 0, 6))
		h.Put(block(Fresh))
		other.Put(block(Taken))
		if h.Facts[len(h.Facts)-1] != le(1, 0, 5) || h.Chunks[len(h.Chunks)-1].Origin != Fresh {
			t.Errorf("P13.1: a heap and its copy grow into the same memory")
		}
	}
}

// TestP131CopyOfError: a call that was refused on the way leaves nothing that a later one could tell.
func TestP131CopyOfError(t *testing.T) {
	none := Sym{}
	h := heapOf(t, api.MaxVars-2, closed(0, none, none, none))
	other := h.Copy()
	wantNoLock(t, h, ptr(0), 0, nil, api.ErrMany)
	wantFresh(t, h)
	wantFresh(t, other)
	if !sameHeap(h, other) {
		t.Errorf("rule 3: behind a refused Lock the heap is %+v, want %+v", h, other)
	}
}

// hidden: a list with the same elements whose memory goes on behind them.
func hidden[T any](list []T, behind T) []T {
	out := append(slices.Clone(list), behind, behind)
	return out[:len(list)]
}

// TestRule4Facts: the facts that are handed in are neither kept nor changed, and what lies behind them is nothing.
func TestRule4Facts(t *testing.T) {
	list := []diff.Leq{le(1, 2, 3), le(2, 1, 4), le(2, 0, 900)}
	spoilt := le(0, 0, -77)
	for name, call := range map[string]func(h *Heap, facts []diff.Leq) []diff.Leq{
		"Assume": func(h *Heap, facts []diff.Leq) []diff.Leq { assume(t, h, facts...); return nil },
		"Over":   func(h *Heap, facts []diff.Leq) []diff.Leq { return Over(facts, []Sym{num(1), num(2)}) },
		"Lock": func(h *Heap, facts []diff.Leq) []diff.Leq {
			if e := h.Lock(toLock, 0, facts); e != api.OK {
				t.Fatalf("Lock: error %d", e)
			}
			return nil
		},
		"Unlock": func(h *Heap, facts []diff.Leq) []diff.Leq {
			if e := h.Unlock(toUnlock, 1, facts); e != api.OK {
				t.Fatalf("Unlock: error %d", e)
			}
			return nil
		},
	} {
		h, plain := rich(t), rich(t)
		facts := hidden(list, spoilt)
		made := call(h, facts)
		want := call(plain, list)
		if !slices.Equal(facts[:len(list)+2], append(slices.Clone(list), spoilt, spoilt)) {
			t.Errorf("rule 4: %s changes the facts that are handed in", name)
		}
		for i := range facts {
			facts[i] = spoilt
		}
		// Were they kept, what is added next would come into their memory.
		assume(t, h, le(0, 0, 9))
		assume(t, plain, le(0, 0, 9))
		if !sameHeap(h, plain) || !slices.Equal(made, want) || facts[:len(list)+1][len(list)] != spoilt {
			t.Errorf("rule 4: %s keeps the facts that are handed in", name)
		}
	}
}

// TestRule4FirstFacts: of a heap without facts too.
func TestRule4FirstFacts(t *testing.T) {
	facts := hidden(trivial(3), le(0, 0, -77))
	h := heapOf(t, 0)
	assume(t, h, facts...)
	facts[0] = le(0, 0, -77)
	assume(t, h, le(0, 0, 9))
	if want := []diff.Leq{{}, {}, {}, le(0, 0, 9)}; !slices.Equal(h.Facts, want) || facts[:4][3] != le(0, 0, -77) {
		t.Errorf("rule 4: Assume keeps the facts that are handed in: %v, want %v", h.Facts, want)
	}
}

// TestRule4Cells: the cells that are handed in are neither kept nor changed.
func TestRule4Cells(t *testing.T) {
	spoilt := num(-77)
	cells := hidden([]Sym{num(1), {}, sum(1, 2)}, spoilt)
	h := heapOf(t, 1, block(Fresh, cells...), held(1, cells...))
	wantStore(t, h, ptr(0), num(0), num(9))
	want := clone(h)
	if !slices.Equal(cells[:5], []Sym{num(1), {}, sum(1, 2), spoilt, spoilt}) {
		t.Errorf("rule 4: a Store changes the cells that were handed in: %v", cells[:5])
	}
	for i := range cells {
		cells[i] = spoilt
	}
	if !sameHeap(h, want) {
		t.Errorf("rule 4: Put keeps the cells that are handed in")
	}
	if e := h.Unlock(ptr(1), 1, nil); e != api.OK || cells[0] != spoilt {
		t.Errorf("rule 4: Unlock: error %d, or it changes the cells that were handed in", e)
	}
	// Two chunks of one list have nothing to do with one another.
	both := []Sym{num(1), num(2)}
	two := heapOf(t, 0, block(Fresh, both...), block(Fresh, both...))
	wantStore(t, two, ptr(0), num(0), num(9))
	wantLoad(t, two, ptr(1), num(0), num(1))
	// What lies behind the list's length isn't a cell.
	wantUnreached(t, heapOf(t, 0, Chunk{Live: true, Cells: both[:1]}), ptr(0), num(1), api.ErrBounds)
}

// TestRule4Over: the answer is new memory, and the cells stay as they are.
func TestRule4Over(t *testing.T) {
	facts, cells := []diff.Leq{le(0, 0, 1), le(1, 0, 2)}, []Sym{num(0), num(5)}
	first, second := Over(facts, cells), Over(facts, cells)
	first[0] = le(9, 9, 9)
	_ = append(first, le(9, 9, 9))
	if second[0] != le(0, 0, 1) || facts[0] != le(0, 0, 1) || !slices.Equal(cells, []Sym{num(0), num(5)}) {
		t.Errorf("rule 4: two answers of Over, or an answer and the facts, share memory")
	}
	// A cell behind the list's length counts for nothing.
	if got := Over([]diff.Leq{le(2, 0, 1)}, cells[:1]); got[0] != le(0, 0, 1) {
		t.Errorf("rule 4: Over reads behind the cells: %v", got)
	}
}

// TestP2: two heaps that were made apart have nothing to do with one another.
func TestP2(t *testing.T) {
	for name, change := range changes() {
		h, other := rich(t), rich(t)
		before := clone(other)
		change(h)
		if !sameHeap(other, before) {
			t.Errorf("P2: %s of a heap changes another one", name)
		}
	}
}

// TestNothingPanics: also of what is no argument a call ends and tells something.
func TestNothingPanics(t *testing.T) {
	odd := []int{-1, 0, 1, 2, 3, 95, 96, math.MinInt, math.MaxInt}
	for _, a := range odd {
		for _, b := range odd {
			v := Sym{Kind: Kind(a), Var: b, K: int64(a), Block: b}
			facts := []diff.Leq{{X: a, Y: b, C: int64(b)}}
			heaps := []*Heap{nil, {}, {Vars: a, Facts: slices.Clone(facts)}, rich(t)}
			c := Chunk{Origin: Origin(a), Type: b, At: b, Live: true, Held: a > b, Array: a == b, Size: v, Cells: []Sym{v, {}}}
			for _, h := range heaps {
				h.Copy()
				h.Put(c)
				h.Put(closed(a, v, v))
				h.Add(v, int64(b))
				h.Dead()
				h.Entails(facts[0])
				Over(facts, []Sym{v})
				for _, p := range []Sym{v, ptr(0), ptr(1), toLock, toUnlock, toArray} {
					h.Load(p, v)
					h.Store(p, v, v)
					h.Lock(p, int64(b), facts)
					h.Unlock(p, int64(b), facts)
					h.Free(p)
				}
				h.Fresh()
				h.Assume(facts...)
				h.Dead()
			}
		}
	}
}
