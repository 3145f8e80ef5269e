package heap

import (
	"math/rand"
	"slices"
	"testing"

	"lychgate/api"
	"lychgate/diff"
)

// everyChunk: one of each Origin, with each of these Ats, live and not, held and not, with cells and as an Array.
func everyChunk() []Chunk {
	var out []Chunk
	for origin := Fresh; origin <= ReadInner; origin++ {
		for _, at := range []int{-1, 0, 1, 2, 9} {
			for _, live := range []bool{false, true} {
				for _, isHeld := range []bool{false, true} {
					c := Chunk{Origin: origin, Type: at, At: at, Live: live, Held: isHeld}
					filled, mixed, large := c, c, c
					filled.Cells = []Sym{num(3), sum(1, 1), sum(2, 0)}
					mixed.Cells = []Sym{sum(2, 1), {}, ptr(0)}
					large.Array, large.Size = true, sum(1, 1)
					out = append(out, c, filled, mixed, large)
				}
			}
		}
	}
	return out
}

// everyCall: all calls on the block 1, and on such as are none, with all kinds of values.
func everyCall() []call {
	var out []call
	pointers := []Sym{{}, num(1), sum(1, 0), ptr(1), ptr(2), ptr(-1)}
	indices := []Sym{{}, ptr(1), num(-1), num(0), num(1), num(2), num(3), sum(1, 0), sum(1, 1), sum(2, 0), sum(2, -1), sum(3, 0)}
	values := []Sym{{}, num(-4), sum(2, 1), ptr(0)}
	facts := [][]diff.Leq{nil, {le(1, 2, 0)}, {le(0, 1, 0), le(3, 2, 0)}, {le(3, 2, -2)}, {le(0, 0, -1)}}
	for _, p := range pointers {
		out = append(out, call{which: toFree, p: p})
		for _, index := range indices {
			out = append(out, call{which: toLoad, p: p, index: index})
			for _, v := range values {
				out = append(out, call{which: toStore, p: p, index: index, v: v})
			}
		}
		for _, n := range []int64{-1, 0, 1, 2, 9} {
			for _, list := range facts {
				out = append(out, call{which: toLockOne, p: p, n: n, facts: list}, call{which: toUnlockOne, p: p, n: n, facts: list})
			}
		}
	}
	return out
}

// TestEvery: every call on every chunk, so that all reasons meet one another.
func TestEvery(t *testing.T) {
	all := everyCall()
	for _, c := range everyChunk() {
		begin := newBoth()
		for range 3 {
			begin.ask(t, call{which: toFresh})
		}
		begin.ask(t, call{which: toAssume, facts: []diff.Leq{le(0, 1, 0), le(1, 2, 2), le(2, 1, 0), le(0, 2, 0)}})
		begin.ask(t, call{which: toPut, chunk: block(Fresh, num(1))})
		begin.ask(t, call{which: toPut, chunk: c})
		b := begin.twin()
		for _, one := range all {
			if is := b.ask(t, one); is.e == api.OK {
				b = begin.twin()
			}
		}
	}
}

func pick[T any](r *rand.Rand, of ...T) T { return of[r.Intn(len(of))] }

func drawnNumber(r *rand.Rand) int64 {
	if r.Intn(12) == 0 {
		return pick[int64](r, api.MaxNum, -api.MaxNum, api.MaxNum-1, 1-api.MaxNum, r.Int63n(api.MaxNum))
	}
	return int64(r.Intn(7) - 2)
}

// drawnSym: any value that the heap may have.
func (b *both) drawnSym(r *rand.Rand) Sym {
	switch r.Intn(12) {
	case 0:
		return Sym{}
	case 1:
		return b.drawnPtr(r)
	case 2, 3, 4, 5:
		return num(drawnNumber(r))
	}
	return sum(r.Intn(b.heap.Vars), drawnNumber(r))
}

func (b *both) drawnPtr(r *rand.Rand) Sym {
	if many := len(b.heap.Chunks); many > 0 {
		return ptr(r.Intn(many))
	}
	return num(0)
}

// drawnFact: of as many variables; it mostly tells something that may hold with others.
func drawnFact(r *rand.Rand, variables int) diff.Leq {
	f := le(r.Intn(variables), r.Intn(variables), int64(r.Intn(12)-2))
	switch r.Intn(60) {
	case 0:
		f.C = pick[int64](r, api.MaxDiff, -api.MaxDiff, api.MaxDiff-1, 1-api.MaxDiff)
	case 1:
		f.C = drawnNumber(r)
	}
	if f.X == f.Y && r.Intn(20) > 0 {
		f.C = max(f.C, 0)
	}
	return f
}

func (b *both) drawnChunk(r *rand.Rand) Chunk {
	c := Chunk{Origin: pick(r, Fresh, Taken, Lent, Read, Shared, Count, Locked, Locked, Locked, Inner, ReadInner), Type: r.Intn(4) - 1, At: -1, Live: r.Intn(12) > 0}
	c.Held = c.Origin == Locked && r.Intn(2) == 0 || r.Intn(20) == 0
	if r.Intn(4) == 0 {
		c.Array, c.Size = true, sum(r.Intn(b.heap.Vars), drawnNumber(r))
		return c
	}
	for range r.Intn(4) {
		c.Cells = append(c.Cells, b.drawnSym(r))
	}
	if r.Intn(2) == 0 || c.Origin == Locked {
		c.At = r.Intn(len(c.Cells)+2) - 1
	}
	return c
}

// drawnCall: one that fits the heap, so that it is seldom refused at once.
func (b *both) drawnCall(r *rand.Rand) call {
	c := call{which: pick(r, toFresh, toAssume, toAssume, toDead, toEntails, toEntails, toAdd, toPut, toLoad, toLoad, toStore, toStore, toStore, toFree, toLockOne, toUnlockOne, toUnlockOne, toCopy)}
	c.p, c.index, c.v, c.n = b.drawnPtr(r), b.drawnSym(r), b.drawnSym(r), drawnNumber(r)
	if r.Intn(15) == 0 {
		c.p = pick(r, Sym{}, num(0), ptr(len(b.heap.Chunks)), ptr(-1), b.drawnSym(r))
	}
	if r.Intn(2) == 0 {
		c.index = num(int64(r.Intn(3)))
	}
	variables := b.heap.Vars
	if named := b.account.named(c.p); c.which == toLockOne || c.which == toUnlockOne {
		variables = 1
		if c.p.Kind == Ptr && c.p.Block >= 0 && c.p.Block < len(b.heap.Chunks) {
			variables += len(b.heap.Chunks[c.p.Block].Cells)
		}
		if r.Intn(10) > 0 {
			c.n = int64(named.At)
		}
	}
	for range 1 + r.Intn(2) {
		c.facts = append(c.facts, drawnFact(r, variables))
	}
	if c.which == toAssume && r.Intn(25) == 0 {
		c.facts = append(c.facts, trivial(r.Intn(api.MaxFacts))...)
	}
	c.chunk = b.drawnChunk(r)
	return c
}

// drawnBoth: mostly a heap without anything, else one that is nearly full.
func drawnBoth(t *testing.T, r *rand.Rand) *both {
	b := newBoth()
	switch r.Intn(5) {
	case 0:
		for range api.MaxVars - 1 - r.Intn(6) {
			b.ask(t, call{which: toFresh})
		}
	case 1:
		b.ask(t, call{which: toAssume, facts: trivial(api.MaxFacts - r.Intn(20))})
	}
	return b
}

// TestDrawn: long runs of calls, drawn anew the same way each time, on a heap and copies of it in turns; every call comes to each of its answers.
func TestDrawn(t *testing.T) {
	r := rand.New(rand.NewSource(13))
	seen := map[int]map[answer]int{}
	for which := range calls {
		seen[which] = map[answer]int{}
	}
	for range 150 {
		some := []*both{drawnBoth(t, r)}
		for range 250 {
			if r.Intn(60) == 0 && len(some) < 4 {
				some = append(some, pick(r, some...).twin())
			}
			b := pick(r, some...)
			c := b.drawnCall(r)
			is := b.ask(t, c)
			is.value = Sym{Kind: is.value.Kind}
			seen[c.which][is]++
		}
		for _, b := range some {
			b.ask(t, call{which: toDead})
		}
	}
	reach := []api.Errno{api.ErrPoison, api.ErrType, api.ErrGone, api.ErrHeld, api.ErrBounds}
	want := map[int][]api.Errno{
		toFresh: {api.ErrMany}, toAssume: {api.OK, api.ErrMany}, toAdd: {api.ErrPoison, api.ErrType, api.ErrMany},
		toLoad: append(slices.Clone(reach), api.ErrMany), toStore: append(slices.Clone(reach), api.OK, api.ErrWrite),
		toFree:    {api.OK, api.ErrPoison, api.ErrType, api.ErrGone, api.ErrWrite},
		toLockOne: append(slices.Clone(reach), api.OK, api.ErrMany), toUnlockOne: append(slices.Clone(reach), api.OK, api.ErrOwed),
	}
	for which, errors := range want {
		for _, e := range errors {
			if seen[which][answer{e: e}] < 5 {
				t.Errorf("the call %d came to the error %d only %d times: too few to tell", which, e, seen[which][answer{e: e}])
			}
		}
	}
	for _, which := range []int{toDead, toEntails} {
		if seen[which][answer{is: true}] < 50 || seen[which][answer{}] < 50 {
			t.Errorf("the call %d: %v: too few of one to tell", which, seen[which])
		}
	}
	for _, kind := range []Kind{Int, Ptr} {
		if seen[toLoad][answer{value: Sym{Kind: kind}}] < 20 {
			t.Errorf("a Load answers a value of the Kind %d only %d times: too few to tell", kind, seen[toLoad][answer{value: Sym{Kind: kind}}])
		}
	}
}

// reader reads calls from bytes; where they are at an end it reads 0.
type reader struct{ data []byte }

func (r *reader) below(n int) int {
	if len(r.data) == 0 {
		return 0
	}
	b := int(r.data[0])
	r.data = r.data[1:]
	return b % n
}

func (r *reader) number() int64 {
	n := int64(r.below(256)) - 100
	switch {
	case n > 100:
		return api.MaxNum - (155 - n)
	case n < -50:
		return -api.MaxNum + (n + 100)
	}
	return n
}

func (r *reader) sym(h *Heap) Sym {
	switch r.below(8) {
	case 0:
		return Sym{}
	case 1, 2:
		return r.ptr(h)
	case 3, 4:
		return num(r.number())
	}
	return sum(r.below(h.Vars), r.number())
}

func (r *reader) ptr(h *Heap) Sym { return ptr(r.below(len(h.Chunks)+2) - 1) }

func (r *reader) facts(variables int) []diff.Leq {
	facts := []diff.Leq{le(r.below(variables), r.below(variables), r.number())}
	for range r.below(4) {
		facts = append(facts, le(r.below(variables), r.below(variables), (8*r.number())))
	}
	return facts
}

func (r *reader) call(h *Heap) call {
	c := call{which: r.below(calls)}
	switch c.which {
	case toAssume, toEntails:
		c.facts = r.facts(h.Vars)
		if r.below(64) == 1 {
			c.facts = append(c.facts, trivial(3*r.below(256))...)
		}
	case toAdd:
		c.v, c.n = r.sym(h), r.number()
	case toPut:
		c.chunk = Chunk{Origin: Origin(r.below(int(ReadInner) + 1)), Type: r.below(3) - 1, At: r.below(6) - 1, Live: r.below(8) > 0, Held: r.below(2) > 0}
		if c.chunk.Array = r.below(3) == 0; c.chunk.Array {
			c.chunk.Size = sum(r.below(h.Vars), r.number())
			break
		}
		for range r.below(5) {
			v := r.sym(h)
			if v.Kind == Ptr && (v.Block < 0 || v.Block >= len(h.Chunks)) {
				v = num(0)
			}
			c.chunk.Cells = append(c.chunk.Cells, v)
		}
	case toLoad, toStore, toFree:
		c.p, c.index, c.v = r.ptr(h), r.sym(h), r.sym(h)
		if r.below(16) == 1 {
			c.p = r.sym(h)
		}
		if c.v.Kind == Ptr && (c.v.Block < 0 || c.v.Block >= len(h.Chunks)) {
			c.v = num(0)
		}
	case toLockOne, toUnlockOne:
		c.p, c.n = r.ptr(h), int64(r.below(6)-1)
		variables := 1
		if c.p.Block >= 0 && c.p.Block < len(h.Chunks) {
			variables += len(h.Chunks[c.p.Block].Cells)
		}
		c.facts = r.facts(variables)
	}
	return c
}

func FuzzHeap(f *testing.F) {
	f.Add([]byte{0, 0, 5, 6, 1, 0, 1, 0, 2, 1, 105, 6, 1, 5, 2, 101, 7, 1, 3, 101, 2})
	f.Add([]byte{5, 6, 1, 1, 1, 0, 1, 2, 0, 0, 9, 1, 1, 2, 1, 100, 0, 10, 1, 1, 1, 2, 104, 0, 10, 1, 1, 2, 1, 120, 0})
	f.Add([]byte{0, 1, 1, 0, 99, 0, 2, 3, 1, 0, 98, 0, 4, 5, 1, 255, 200, 11, 8, 0, 2})
	f.Fuzz(func(t *testing.T, data []byte) {
		b, r := newBoth(), &reader{data}
		for range 300 {
			if len(r.data) == 0 {
				break
			}
			b.ask(t, r.call(b.heap))
		}
	})
}
