package heap

import (
	"math"
	"slices"
	"testing"

	"lychgate/api"
	"lychgate/diff"
)

func le(x, y int, c int64) diff.Leq { return diff.Leq{X: x, Y: y, C: c} }

func num(k int64) Sym { return Sym{Kind: Int, K: k} }

// sum: the variable and a number.
func sum(variable int, k int64) Sym { return Sym{Kind: Int, Var: variable, K: k} }

func ptr(block int) Sym { return Sym{Kind: Ptr, Block: block} }

// heapOf: a heap with so many variables beside 0, and these chunks.
func heapOf(t *testing.T, variables int, chunks ...Chunk) *Heap {
	t.Helper()
	h := &Heap{Vars: 1}
	for i := range variables {
		if v, e := h.Fresh(); v != sum(i+1, 0) || e != api.OK {
			t.Fatalf("P13.1: Fresh: %v, error %d; want the variable %d", v, e, i+1)
		}
	}
	for i, c := range chunks {
		if p := h.Put(c); p != ptr(i) {
			t.Fatalf("P13.3: Put: %v, want the block %d", p, i)
		}
	}
	return h
}

// trivial: so many facts that tell nothing.
func trivial(many int) []diff.Leq { return make([]diff.Leq, many) }

func assume(t *testing.T, h *Heap, facts ...diff.Leq) {
	t.Helper()
	if e := h.Assume(facts...); e != api.OK {
		t.Fatalf("P13.1: Assume of %d facts: error %d", len(facts), e)
	}
}

// fill assumes facts that tell nothing, until there are so many.
func fill(t *testing.T, h *Heap, many int) {
	t.Helper()
	assume(t, h, trivial(many-len(h.Facts))...)
}

func sameChunk(a, b Chunk) bool {
	same := slices.Equal(a.Cells, b.Cells)
	return same && a.Origin == b.Origin && a.Type == b.Type && a.At == b.At && a.Live == b.Live && a.Held == b.Held && a.Array == b.Array && a.Size == b.Size
}

func sameHeap(a, b *Heap) bool {
	return a.Vars == b.Vars && slices.Equal(a.Facts, b.Facts) && slices.EqualFunc(a.Chunks, b.Chunks, sameChunk)
}

// clone is a second Copy, written for the tests alone: it shows what Copy must make.
func clone(h *Heap) *Heap {
	out := &Heap{Vars: h.Vars, Facts: append([]diff.Leq(nil), h.Facts...)}
	for _, c := range h.Chunks {
		c.Cells = append([]Sym(nil), c.Cells...)
		out.Chunks = append(out.Chunks, c)
	}
	return out
}

// wantKept runs a call, and wants that it changes nothing.
func wantKept(t *testing.T, h *Heap, call func()) {
	t.Helper()
	before := clone(h)
	call()
	if !sameHeap(h, before) {
		t.Errorf("with an error nothing changes: %+v, was %+v", h, before)
	}
}

// wantChange runs a call, and wants that it changes just this.
func wantChange(t *testing.T, h *Heap, call func(), change func(*Heap)) {
	t.Helper()
	want := clone(h)
	change(want)
	call()
	if !sameHeap(h, want) {
		t.Errorf("the heap is %+v, want %+v", h, want)
	}
}

// oneMore is how a heap changes by Fresh.
func oneMore(h *Heap) {
	h.Facts = append(h.Facts, le(h.Vars, 0, 1<<40), le(0, h.Vars, 1<<40))
	h.Vars++
}

func unchanged(*Heap) {}

func TestP131Number(t *testing.T) {
	for _, n := range []int64{0, 1, -1, 7, -7, api.MaxNum, -api.MaxNum, math.MaxInt64, math.MinInt64} {
		if got := Number(n); got != (Sym{Kind: Int, Var: 0, K: n, Block: 0}) {
			t.Errorf("P13.1: Number(%d): %v", n, got)
		}
	}
}

func wantFresh(t *testing.T, h *Heap) {
	t.Helper()
	next := h.Vars
	wantChange(t, h, func() {
		if v, e := h.Fresh(); v != sum(next, 0) || e != api.OK {
			t.Errorf("P13.1: Fresh: %v, error %d; want the variable %d", v, e, next)
		}
	}, oneMore)
}

func wantNoFresh(t *testing.T, h *Heap) {
	t.Helper()
	wantKept(t, h, func() {
		if v, e := h.Fresh(); v != (Sym{}) || e != api.ErrMany {
			t.Errorf("P13.1: Fresh with %d variables and %d facts: %v, error %d; want ErrMany", h.Vars, len(h.Facts), v, e)
		}
	})
}

func TestP131Fresh(t *testing.T) {
	h := &Heap{Vars: 1}
	wantFresh(t, h)
	if want := []diff.Leq{{X: 1, Y: 0, C: api.MaxNum}, {X: 0, Y: 1, C: api.MaxNum}}; !slices.Equal(h.Facts, want) {
		t.Errorf("P13.1: the facts of the first variable are %v, want %v", h.Facts, want)
	}
	h.Put(Chunk{Origin: Taken, Live: true, Cells: []Sym{sum(1, 3)}})
	assume(t, h, le(0, 1, 0))
	wantFresh(t, h)
	wantFresh(t, h)
}

func TestP131FreshMostVariables(t *testing.T) {
	h := heapOf(t, 0)
	for h.Vars < api.MaxVars {
		wantFresh(t, h)
	}
	if h.Vars != 96 || len(h.Facts) != 190 {
		t.Errorf("P13.1: %d variables, %d facts", h.Vars, len(h.Facts))
	}
	wantNoFresh(t, h)
	wantNoFresh(t, h)
}

func TestP131FreshMostFacts(t *testing.T) {
	for _, variables := range []int{0, 1, api.MaxVars - 2} {
		for many, fits := range map[int]bool{api.MaxFacts - 3: true, api.MaxFacts - 2: true, api.MaxFacts - 1: false, api.MaxFacts: false} {
			h := heapOf(t, variables, Chunk{Live: true, Cells: []Sym{num(1)}})
			fill(t, h, many)
			if fits {
				wantFresh(t, h)
			} else {
				wantNoFresh(t, h)
			}
		}
	}
}

func wantAssume(t *testing.T, h *Heap, facts ...diff.Leq) {
	t.Helper()
	wantChange(t, h, func() {
		if e := h.Assume(facts...); e != api.OK {
			t.Errorf("P13.1: Assume of %d facts: error %d", len(facts), e)
		}
	}, func(h *Heap) { h.Facts = append(h.Facts, facts...) })
}

func wantNoAssume(t *testing.T, h *Heap, facts ...diff.Leq) {
	t.Helper()
	wantKept(t, h, func() {
		if e := h.Assume(facts...); e != api.ErrMany {
			t.Errorf("P13.1: Assume of %d facts behind %d: error %d, want ErrMany", len(facts), len(h.Facts), e)
		}
	})
}

func TestP131Assume(t *testing.T) {
	h := heapOf(t, 0)
	wantAssume(t, h)
	wantAssume(t, h, le(0, 0, 5))
	wantFresh(t, h)
	wantAssume(t, h, le(1, 0, -3), le(0, 1, 7), le(1, 0, -3), le(1, 1, api.MaxDiff), le(0, 0, -api.MaxDiff))
	wantAssume(t, h)
	// It may tell anew what is told, and what can't hold.
	wantAssume(t, h, h.Facts...)
	wantAssume(t, h, le(0, 0, -1))
}

func TestP131AssumeMost(t *testing.T) {
	h := heapOf(t, 1)
	wantNoAssume(t, h, trivial(api.MaxFacts-1)...)
	wantNoAssume(t, h, trivial(api.MaxFacts+5)...)
	wantAssume(t, h, trivial(api.MaxFacts-3)...)
	wantNoAssume(t, h, le(0, 1, 0), le(1, 0, 0))
	wantAssume(t, h, le(0, 1, 0))
	if len(h.Facts) != 768 {
		t.Errorf("P13.1: %d facts", len(h.Facts))
	}
	wantNoAssume(t, h, le(0, 1, 0))
	wantAssume(t, h)
	whole := heapOf(t, 0)
	wantNoAssume(t, whole, trivial(api.MaxFacts+1)...)
	wantAssume(t, whole, trivial(api.MaxFacts)...)
}

func wantDead(t *testing.T, h *Heap, want bool) {
	t.Helper()
	wantKept(t, h, func() {
		if is := h.Dead(); is != want {
			t.Errorf("P13.2: %d variables, %d facts: Dead is %v, want %v", h.Vars, len(h.Facts), is, want)
		}
	})
}

func wantEntails(t *testing.T, h *Heap, f diff.Leq, want bool) {
	t.Helper()
	wantKept(t, h, func() {
		if is := h.Entails(f); is != want {
			t.Errorf("P13.2: %d variables, %d facts: does %v follow? %v, want %v", h.Vars, len(h.Facts), f, is, want)
		}
	})
}

// wantBound: of x less y the facts tell that it is at most c, and no less.
func wantBound(t *testing.T, h *Heap, x, y int, c int64) {
	t.Helper()
	wantEntails(t, h, le(x, y, c+1), true)
	wantEntails(t, h, le(x, y, c), true)
	wantEntails(t, h, le(x, y, c-1), false)
}

func TestP132Entails(t *testing.T) {
	h := heapOf(t, 0)
	wantBound(t, h, 0, 0, 0)
	h = heapOf(t, 3)
	wantBound(t, h, 1, 1, 0)
	wantBound(t, h, 1, 0, api.MaxNum)
	wantBound(t, h, 0, 3, api.MaxNum)
	wantBound(t, h, 1, 2, 2*api.MaxNum)
	assume(t, h, le(1, 2, -1), le(2, 3, 4))
	wantBound(t, h, 1, 3, 3)
	wantBound(t, h, 3, 1, 2*api.MaxNum)
	wantBound(t, h, 1, 0, api.MaxNum-1)
	wantBound(t, h, 0, 2, api.MaxNum-1)
	assume(t, h, le(3, 0, -7))
	wantBound(t, h, 1, 0, -4)
	wantDead(t, h, false)
	assume(t, h, le(0, 1, 3))
	wantDead(t, h, true)
	// Of facts that can't hold together all follows.
	wantEntails(t, h, le(1, 3, -900), true)
	wantEntails(t, h, le(0, 0, -1), true)
	wantEntails(t, h, le(2, 0, -api.MaxDiff), true)
}

func TestP132Dead(t *testing.T) {
	wantDead(t, heapOf(t, 0), false)
	wantDead(t, heapOf(t, api.MaxVars-1), false)
	for _, x := range []struct {
		facts []diff.Leq
		want  bool
	}{
		{[]diff.Leq{le(0, 0, 0)}, false},
		{[]diff.Leq{le(0, 0, -1)}, true},
		{[]diff.Leq{le(2, 2, -1)}, true},
		{[]diff.Leq{le(1, 0, -api.MaxNum)}, false},
		{[]diff.Leq{le(1, 0, -api.MaxNum-1)}, true},
		{[]diff.Leq{le(0, 2, -api.MaxNum)}, false},
		{[]diff.Leq{le(0, 2, -api.MaxNum-1)}, true},
		{[]diff.Leq{le(1, 2, -2*api.MaxNum)}, false},
		{[]diff.Leq{le(1, 2, -2*api.MaxNum-1)}, true},
		{[]diff.Leq{le(1, 2, 3), le(2, 1, -3)}, false},
		{[]diff.Leq{le(1, 2, 3), le(2, 1, -4)}, true},
		{[]diff.Leq{le(1, 2, api.MaxDiff), le(0, 0, api.MaxDiff)}, false},
		{[]diff.Leq{le(0, 0, -api.MaxDiff)}, true},
	} {
		h := heapOf(t, 2)
		assume(t, h, x.facts...)
		wantDead(t, h, x.want)
	}
}

// TestP132MostFacts: with MaxFacts facts it can't be asked what follows, but whether they have a solution.
func TestP132MostFacts(t *testing.T) {
	for _, last := range []diff.Leq{le(1, 0, -5), le(0, 0, -1)} {
		h := heapOf(t, 1)
		assume(t, h, last)
		dead := last.X == 0
		fill(t, h, api.MaxFacts-1)
		wantEntails(t, h, le(1, 0, -5), true)
		wantEntails(t, h, le(1, 0, -6), dead)
		wantDead(t, h, dead)
		fill(t, h, api.MaxFacts)
		wantEntails(t, h, le(1, 0, -5), false)
		wantEntails(t, h, le(0, 0, 0), false)
		wantDead(t, h, dead)
	}
	// The last one of them counts too.
	h := heapOf(t, 1)
	fill(t, h, api.MaxFacts-1)
	assume(t, h, le(0, 0, -1))
	wantDead(t, h, true)
}

// TestP132Far: what is asked with numbers at MaxDiff and beyond; layer 4 takes a goal's number below MaxDiff alone.
func TestP132Far(t *testing.T) {
	for _, dead := range []bool{false, true} {
		h := heapOf(t, 2)
		assume(t, h, le(1, 2, api.MaxDiff), le(2, 1, api.MaxDiff))
		if dead {
			assume(t, h, le(0, 0, -api.MaxDiff))
		}
		wantDead(t, h, dead)
		for c, want := range map[int64]bool{
			api.MaxDiff - 1: true, api.MaxDiff: false, api.MaxDiff + 1: false, math.MaxInt64: false,
			-api.MaxDiff: dead, -api.MaxDiff - 1: false, math.MinInt64: false,
		} {
			wantEntails(t, h, le(1, 2, c), want)
			wantEntails(t, h, le(1, 1, c), want)
		}
	}
}

// lockOf: a lock whose cell 0 holds a value.
func lockOf(at Sym, cells int) Chunk {
	return Chunk{Origin: Locked, Live: true, Cells: append([]Sym{at}, make([]Sym, cells)...)}
}

// TestP132FarByOver: facts that Over makes, which Lock assumes, may have numbers beyond MaxDiff: what follows can't be asked then, but the facts have a solution or not.
func TestP132FarByOver(t *testing.T) {
	for _, x := range []struct {
		at   int64
		fact diff.Leq
		dead bool
		asks bool
	}{
		{0, le(2, 1, api.MaxDiff), false, true},
		{1, le(2, 1, api.MaxDiff), false, false},
		{-1, le(2, 1, api.MaxDiff), false, true},
		{api.MaxNum, le(0, 1, api.MaxDiff), false, false},
		{-api.MaxNum, le(1, 0, api.MaxDiff), false, false},
		{1, le(1, 2, api.MaxDiff), false, true},
		{0, le(1, 2, -api.MaxDiff), true, true},
		{-1, le(1, 2, -api.MaxDiff), true, true},
		{1, le(1, 2, -api.MaxDiff), true, false},
		{api.MaxNum, le(1, 0, -api.MaxDiff), true, false},
		{-api.MaxNum, le(2, 1, -api.MaxDiff), true, false},
	} {
		h := heapOf(t, 0, lockOf(num(x.at), 1))
		if e := h.Lock(ptr(0), 0, []diff.Leq{x.fact}); e != api.OK {
			t.Fatalf("P13.6: Lock with %v at %d: error %d", x.fact, x.at, e)
		}
		wantDead(t, h, x.dead)
		wantEntails(t, h, le(1, 1, 0), x.asks)
		wantEntails(t, h, le(0, 0, 0), x.asks)
		// What can hold together is told beside it too.
		assume(t, h, le(1, 0, -3), le(0, 1, 2))
		wantDead(t, h, true)
	}
}

// TestP132OverAsked: facts that Over makes of great numbers are asked as they are.
func TestP132OverAsked(t *testing.T) {
	h := heapOf(t, 2)
	for _, x := range []struct {
		c    int64
		want bool
	}{{api.MaxDiff, false}, {api.MaxDiff - api.MaxNum, false}, {api.MaxDiff - api.MaxNum - 1, true}, {api.MaxNum, true}, {-api.MaxDiff, false}} {
		made := Over([]diff.Leq{le(1, 2, x.c)}, []Sym{sum(1, 0), sum(2, api.MaxNum)})
		if made[0] != le(1, 2, x.c+api.MaxNum) {
			t.Errorf("P13.3: Over: %v", made)
		}
		wantEntails(t, h, made[0], x.want)
	}
}

func wantAdd(t *testing.T, h *Heap, s Sym, n int64, want Sym) {
	t.Helper()
	wantKept(t, h, func() {
		if v, e := h.Add(s, n); v != want || e != api.OK {
			t.Errorf("P13.3: Add(%v, %d): %v, error %d; want %v", s, n, v, e, want)
		}
	})
}

func wantNoAdd(t *testing.T, h *Heap, s Sym, n int64, want api.Errno) {
	t.Helper()
	wantKept(t, h, func() {
		if v, e := h.Add(s, n); v != (Sym{}) || e != want {
			t.Errorf("P13.3: Add(%v, %d): %v, error %d; want error %d", s, n, v, e, want)
		}
	})
}

// wantAddFresh: the sum is too great to be told, and is a fresh variable.
func wantAddFresh(t *testing.T, h *Heap, s Sym, n int64) {
	t.Helper()
	next := h.Vars
	wantChange(t, h, func() {
		if v, e := h.Add(s, n); v != sum(next, 0) || e != api.OK {
			t.Errorf("P13.3: Add(%v, %d): %v, error %d; want the variable %d", s, n, v, e, next)
		}
	}, oneMore)
}

func TestP133Add(t *testing.T) {
	h := heapOf(t, 2, Chunk{Live: true})
	wantAdd(t, h, num(3), 4, num(7))
	wantAdd(t, h, num(3), -4, num(-1))
	wantAdd(t, h, sum(2, 5), -5, sum(2, 0))
	wantAdd(t, h, sum(2, -5), 1, sum(2, -4))
	for _, n := range []int64{1, -1, api.MaxNum, math.MaxInt64, math.MinInt64} {
		wantNoAdd(t, h, Sym{}, n, api.ErrPoison)
		wantNoAdd(t, h, ptr(0), n, api.ErrType)
	}
	wantNoAdd(t, h, Sym{}, 0, api.ErrPoison)
	for _, s := range []Sym{ptr(0), num(0), num(-9), sum(1, 0), sum(2, api.MaxNum), num(-api.MaxNum)} {
		wantAdd(t, h, s, 0, s)
	}
}

func TestP133AddFar(t *testing.T) {
	for _, variable := range []int{0, 1} {
		h := heapOf(t, 1)
		wantAdd(t, h, sum(variable, api.MaxNum-1), 1, sum(variable, api.MaxNum))
		wantAdd(t, h, sum(variable, 1-api.MaxNum), -1, sum(variable, -api.MaxNum))
		wantAdd(t, h, sum(variable, api.MaxNum), -2*api.MaxNum, sum(variable, -api.MaxNum))
		wantAdd(t, h, sum(variable, -api.MaxNum), 2*api.MaxNum, sum(variable, api.MaxNum))
		wantAdd(t, h, sum(variable, 0), api.MaxNum, sum(variable, api.MaxNum))
		wantAddFresh(t, h, sum(variable, api.MaxNum), 1)
		wantAddFresh(t, h, sum(variable, -api.MaxNum), -1)
		wantAddFresh(t, h, sum(variable, 1), api.MaxNum)
		wantAddFresh(t, h, sum(variable, -1), -api.MaxNum)
		for _, k := range []int64{0, 1, -1, api.MaxNum, -api.MaxNum} {
			wantAddFresh(t, h, sum(variable, k), math.MaxInt64)
			wantAddFresh(t, h, sum(variable, k), math.MinInt64)
		}
	}
}

// TestP133AddFull: beyond MaxNum there is what Fresh answers, also its error.
func TestP133AddFull(t *testing.T) {
	many := heapOf(t, api.MaxVars-1)
	full := heapOf(t, 1)
	fill(t, full, api.MaxFacts-1)
	for _, h := range []*Heap{many, full} {
		wantNoAdd(t, h, num(api.MaxNum), 1, api.ErrMany)
		wantNoAdd(t, h, sum(1, -api.MaxNum), -1, api.ErrMany)
		wantNoAdd(t, h, Sym{}, 1, api.ErrPoison)
		wantAdd(t, h, num(api.MaxNum-1), 1, num(api.MaxNum))
	}
}

// someChunks: chunks of each Origin, with and without cells, Arrays, live and not, held and not.
func someChunks() []Chunk {
	var out []Chunk
	for origin := Fresh; origin <= ReadInner; origin++ {
		out = append(out,
			Chunk{Origin: origin, Type: 3, At: -1, Live: true, Cells: []Sym{num(5), {}, sum(1, -2), ptr(0)}},
			Chunk{Origin: origin, Type: -1, At: 0, Held: true},
			Chunk{Origin: origin, At: 1, Live: true, Held: true, Cells: []Sym{{}, {}}},
			Chunk{Origin: origin, Type: -1, At: -1, Live: true, Array: true, Size: sum(1, 1)},
		)
	}
	return out
}

func TestP133Put(t *testing.T) {
	h := heapOf(t, 1)
	for i, c := range someChunks() {
		wantChange(t, h, func() {
			if p := h.Put(c); p != (Sym{Kind: Ptr, Var: 0, K: 0, Block: i}) {
				t.Errorf("P13.3: Put: %v, want the Ptr to %d", p, i)
			}
		}, func(h *Heap) { h.Chunks = append(h.Chunks, c) })
	}
	// One that isn't live any more keeps its number.
	if e := h.Free(ptr(0)); e != api.OK {
		t.Fatalf("P13.5: error %d", e)
	}
	if p := h.Put(Chunk{}); p != ptr(len(someChunks())) {
		t.Errorf("P13.3: Put: %v", p)
	}
}

func wantOver(t *testing.T, facts []diff.Leq, cells []Sym, want ...diff.Leq) {
	t.Helper()
	if got := Over(facts, cells); !slices.Equal(got, want) {
		t.Errorf("P13.3: of %v, over %v: %v, want %v", facts, cells, got, want)
	}
}

func TestP133Over(t *testing.T) {
	cells := []Sym{sum(4, 3), num(5), ptr(2), {}, sum(7, -2)}
	wantOver(t, nil, nil)
	wantOver(t, nil, cells)
	wantOver(t, []diff.Leq{le(0, 0, 6)}, nil, le(0, 0, 6))
	wantOver(t, []diff.Leq{le(1, 5, 10)}, cells, le(4, 7, 5))
	wantOver(t, []diff.Leq{le(5, 1, 10)}, cells, le(7, 4, 15))
	wantOver(t, []diff.Leq{le(0, 1, 0)}, cells, le(0, 4, 3))
	wantOver(t, []diff.Leq{le(1, 0, 0)}, cells, le(4, 0, -3))
	wantOver(t, []diff.Leq{le(2, 2, 1)}, cells, le(0, 0, 1))
	wantOver(t, []diff.Leq{le(1, 1, -1)}, cells, le(4, 4, -1))
	// A cell that is no Int counts as the number 0.
	wantOver(t, []diff.Leq{le(3, 4, 9), le(3, 2, 9), le(1, 4, 9), le(4, 3, 0)}, cells, le(0, 0, 9), le(0, 0, 14), le(4, 0, 6), le(0, 0, 0))
	wantOver(t, []diff.Leq{le(1, 2, 9), le(2, 1, 9)}, []Sym{{Kind: Ptr, Var: 3, K: 4, Block: 5}, {Var: 3, K: 4}}, le(0, 0, 9), le(0, 0, 9))
	// In their order, as often as they are there.
	wantOver(t, []diff.Leq{le(2, 1, 0), le(1, 2, 0), le(2, 1, 0)}, cells, le(0, 4, -2), le(4, 0, 2), le(0, 4, -2))
	far := []Sym{sum(1, -api.MaxNum), sum(2, api.MaxNum)}
	wantOver(t, []diff.Leq{le(1, 2, api.MaxDiff), le(2, 1, -api.MaxDiff)}, far, le(1, 2, api.MaxDiff+2*api.MaxNum), le(2, 1, -api.MaxDiff-2*api.MaxNum))
}

// TestP133OverNames: cells are told apart by their place alone; a pointer's number and a none's are nothing.
func TestP133OverNames(t *testing.T) {
	cells := make([]Sym, api.MaxFields)
	for i := range cells {
		cells[i] = sum(90-i, int64(i))
	}
	for x := range len(cells) + 1 {
		for y := range len(cells) + 1 {
			want := le(0, 0, 100)
			if x > 0 {
				want.X, want.C = 91-x, want.C-int64(x-1)
			}
			if y > 0 {
				want.Y, want.C = 91-y, want.C+int64(y-1)
			}
			wantOver(t, []diff.Leq{le(x, y, 100)}, cells, want)
		}
	}
}

// TestP133OverMeans: the facts of cells hold of numbers just where the type's facts hold of what the cells are with them.
func TestP133OverMeans(t *testing.T) {
	cells := []Sym{sum(2, 1), num(-1), sum(1, -2), ptr(0)}
	for x := range len(cells) + 1 {
		for y := range len(cells) + 1 {
			for a := int64(-3); a <= 3; a++ {
				for b := int64(-3); b <= 3; b++ {
					of := []int64{0, a, b}                 // the variables 0, 1 and 2
					are := []int64{0, b + 1, -1, a - 2, 0} // the variable 0 of the type, and the cells
					for c := int64(-4); c <= 4; c++ {
						made := Over([]diff.Leq{le(x, y, c)}, cells)[0]
						if (are[x]-are[y] <= c) != (of[made.X]-of[made.Y] <= made.C) {
							t.Fatalf("P13.3: of %v, over %v: %v, which isn't the same with %v", le(x, y, c), cells, made, of)
						}
					}
				}
			}
		}
	}
}
