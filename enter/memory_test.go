package enter

import (
	"math"
	"slices"
	"testing"

	"lychgate/api"
	"lychgate/diff"
	"lychgate/heap"
	"lychgate/shape"
	"lychgate/sign"
)

// all is a function with a parameter of each sort, arrays, and counts.
const all = types + "fn f(i: int, a: &mut o, b: &r, c: own g, d: &m, e: &o, h: own c, j: int) -> int { }"

// spoil writes over each element, also where a list's memory goes on behind it.
func spoil[T any](list []T, with T) {
	list = list[:cap(list)]
	for i := range list {
		list[i] = with
	}
}

func cloneTable(table shape.Table) shape.Table {
	out := slices.Clone(table)
	for i := range out {
		out[i].Fields, out[i].Facts = slices.Clone(out[i].Fields), slices.Clone(out[i].Facts)
	}
	return out
}

func sameTable(a, b shape.Table) bool {
	return slices.EqualFunc(a, b, func(x, y shape.Type) bool {
		return x.Name == y.Name && x.Sort == y.Sort && x.Of == y.Of && slices.Equal(x.Fields, y.Fields) && slices.Equal(x.Facts, y.Facts)
	})
}

func cloneStart(s Start) Start {
	return Start{Heap: s.Heap.Copy(), Vars: slices.Clone(s.Vars), Blocks: slices.Clone(s.Blocks), Counts: slices.Clone(s.Counts)}
}

// lists: by which each list of a Start is written over, and what its memory has behind it.
func lists(s Start) []func() {
	out := []func(){
		func() { spoil(s.Vars, Var{"spoilt", v(-77)}) },
		func() { spoil(s.Blocks, -77) },
		func() { spoil(s.Counts, v(-77)) },
		func() { spoil(s.Heap.Facts, le(-77, -77, -77)) },
	}
	for _, c := range s.Heap.Chunks {
		out = append(out, func() { spoil(c.Cells, v(-77)) })
	}
	return append(out, func() { spoil(s.Heap.Chunks, heap.Chunk{Type: -77}) })
}

// TestP141Kept: what is handed in is neither changed nor kept, and what lies behind its lists is nothing.
func TestP141Kept(t *testing.T) {
	table, sigs := read(t, all)
	want, e := Begin(sigs[0], table)
	if e != api.OK {
		t.Fatal(e)
	}
	behindType := shape.Type{Name: "behind", Fields: []shape.Field{{Name: "x", Size: -1}}}
	behindParam := sign.Param{Name: "behind", Mode: sign.Int}
	mine := append(cloneTable(table), behindType, behindType)[:len(table)]
	for i := range mine {
		mine[i].Fields = append(mine[i].Fields, shape.Field{Name: "behind", Size: -1})[:len(mine[i].Fields)]
		mine[i].Facts = append(mine[i].Facts, le(0, 0, -9))[:len(mine[i].Facts)]
	}
	sig := sigs[0]
	sig.Params = append(slices.Clone(sig.Params), behindParam, behindParam)[:len(sig.Params)]
	got, e := Begin(sig, mine)
	wantSame(t, "a table and a signature with more behind them", got, e, want)
	if !sameTable(mine, table) || !slices.Equal(sig.Params, sigs[0].Params) {
		t.Errorf("rule 4: Begin changes what is handed in: %+v, %+v", sig, mine)
	}
	if behind := mine[:len(mine)+2]; behind[len(mine)].Name != "behind" || behind[len(mine)+1].Name != "behind" || sig.Params[:len(sig.Params)+2][len(sig.Params)] != behindParam {
		t.Errorf("rule 4: Begin writes behind what is handed in")
	}
	for _, of := range mine {
		if of.Fields[:len(of.Fields)+1][len(of.Fields)].Name != "behind" || of.Facts[:len(of.Facts)+1][len(of.Facts)] != le(0, 0, -9) {
			t.Errorf("rule 4: Begin writes behind the lists of a type: %+v", of)
		}
		spoil(of.Fields, shape.Field{Name: "spoilt", Size: -77})
		spoil(of.Facts, diff.Leq{X: -77, Y: -77, C: -77})
	}
	spoil(mine, shape.Type{Name: "spoilt"})
	spoil(sig.Params, sign.Param{Name: "spoilt"})
	wantSame(t, "a table and a signature that are written over", got, api.OK, want)
}

// TestP141Handed: nothing of what is handed in, or of another answer, comes with an answer.
func TestP141Handed(t *testing.T) {
	table, sigs := read(t, all)
	before := cloneTable(table)
	params := slices.Clone(sigs[0].Params)
	first, _ := Begin(sigs[0], table)
	want := cloneStart(first)
	for _, write := range lists(first) {
		second, e := Begin(sigs[0], table)
		write()
		wantSame(t, "an answer behind another one that is written over", second, e, want)
		third, e := Begin(sigs[0], table)
		wantSame(t, "an answer behind that", third, e, want)
	}
	if !sameTable(table, before) || !slices.Equal(sigs[0].Params, params) {
		t.Errorf("rule 4: what is written into an answer is seen in what was handed in")
	}
}

// TestP141Lists: no two lists of an answer share memory.
func TestP141Lists(t *testing.T) {
	table, sigs := read(t, all)
	first, _ := Begin(sigs[0], table)
	for i := range lists(first) {
		got, _ := Begin(sigs[0], table)
		want := cloneStart(got)
		lists(got)[i]()
		lists(want)[i]()
		wantSame(t, "an answer with one list that is written over", got, api.OK, want)
	}
}

// TestP141Changed: what is done with a heap is done to it alone.
func TestP141Changed(t *testing.T) {
	table, sigs := read(t, all)
	before := cloneTable(table)
	got, _ := Begin(sigs[0], table)
	want := cloneStart(got)
	other, _ := Begin(sigs[0], table)
	done := []api.Errno{
		got.Heap.Store(got.Vars[1].Value, heap.Number(0), heap.Number(9)),
		got.Heap.Unlock(got.Vars[3].Value, 1, nil),
		got.Heap.Lock(got.Vars[4].Value, 1, nil),
		got.Heap.Free(got.Vars[6].Value),
		got.Heap.Assume(le(1, 0, 5)),
	}
	if slices.ContainsFunc(done, func(e api.Errno) bool { return e != api.OK }) {
		t.Fatalf("the changes are refused: %v", done)
	}
	if sameHeap(got.Heap, want.Heap) {
		t.Fatalf("the changes change nothing")
	}
	wantSame(t, "another answer", other, api.OK, want)
	got.Heap = want.Heap
	wantSame(t, "the lists beside the heap", got, api.OK, want)
	if !sameTable(table, before) {
		t.Errorf("rule 4: what is done with a heap is seen in the table")
	}
}

// TestP141Again: each call with the same answers the same (rule 8).
func TestP141Again(t *testing.T) {
	table, sigs := read(t, all)
	want, _ := Begin(sigs[0], table)
	for range 200 {
		got, e := Begin(sigs[0], table)
		wantSame(t, all, got, e, want)
	}
}

// TestP141Used: what the heap lets be done with the values of parameters is what their origins say.
func TestP141Used(t *testing.T) {
	s, e := beginOf(t, types+"fn f(a: own o, b: &o, c: &mut o, k: &c, r: &r, m: &m, g: &g) { }")
	if e != api.OK {
		t.Fatal(e)
	}
	zero, one := heap.Number(0), heap.Number(1)
	for i, want := range []struct{ load, store, count, free api.Errno }{
		{api.OK, api.OK, api.OK, api.OK},
		{api.OK, api.ErrWrite, api.ErrWrite, api.ErrWrite},
		{api.OK, api.OK, api.OK, api.ErrGone},
		{api.OK, api.OK, api.OK, api.ErrGone},
		{api.OK, api.OK, api.OK, api.OK},
		{api.ErrHeld, api.ErrHeld, api.ErrHeld, api.ErrGone},
		{api.OK, api.OK, api.ErrHeld, api.ErrGone},
	} {
		p := s.Vars[i].Value
		h := s.Heap.Copy()
		if _, e := h.Load(p, zero); e != want.load {
			t.Errorf("P14.1: %s: Load is error %d, want %d", s.Vars[i].Name, e, want.load)
		}
		if e := h.Store(p, zero, one); e != want.store {
			t.Errorf("P14.1: %s: Store is error %d, want %d", s.Vars[i].Name, e, want.store)
		}
		if e := h.Store(p, one, one); e != want.count {
			t.Errorf("P14.1: %s: Store of the cell 1 is error %d, want %d", s.Vars[i].Name, e, want.count)
		}
		if e := h.Free(p); e != want.free {
			t.Errorf("P14.1: %s: Free is error %d, want %d", s.Vars[i].Name, e, want.free)
		}
	}
	// The arrays: within their size all may be read.
	for i, write := range []api.Errno{api.OK, api.ErrWrite, api.OK} {
		h := s.Heap.Copy()
		d, e := h.Load(s.Vars[i].Value, one)
		size, _ := h.Load(s.Vars[i].Value, zero)
		if e != api.OK || !h.Entails(le(size.Var, 0, 256)) || h.Entails(le(size.Var, 0, 255)) || !h.Entails(le(0, size.Var, 0)) || h.Entails(le(0, size.Var, -1)) {
			t.Errorf("P14.1: %s: its array is error %d, or of a size that isn't from 0 to MaxBlock", s.Vars[i].Name, e)
		}
		if _, e := h.Load(d, zero); e != api.ErrBounds {
			t.Errorf("P14.1: %s: Load of its array is error %d, want %d", s.Vars[i].Name, e, api.ErrBounds)
		}
		h.Assume(le(0, size.Var, -1))
		if _, e := h.Load(d, zero); e != api.OK {
			t.Errorf("P14.1: %s: Load of its array with a cell is error %d", s.Vars[i].Name, e)
		}
		if e := h.Store(d, zero, one); e != write {
			t.Errorf("P14.1: %s: Store to its array is error %d, want %d", s.Vars[i].Name, e, write)
		}
	}
	if !s.Heap.Entails(le(0, s.Counts[4].Var, -1)) || s.Heap.Entails(le(0, s.Counts[4].Var, -2)) {
		t.Errorf("P14.1: it doesn't follow that the count is at least 1, or more does")
	}
}

// TestNothingPanics: also of what is no argument a call ends and tells something.
func TestNothingPanics(t *testing.T) {
	odd := []int{math.MinInt, -2, -1, 0, 1, 2, 3, 4, 5, 6, math.MaxInt}
	for _, a := range odd {
		for _, b := range odd {
			for _, of := range odd {
				facts := []diff.Leq{{X: a, Y: b, C: int64(of)}, {X: 2, Y: 1, C: math.MinInt64}}
				table := shape.Table{
					{Sort: shape.Sort(a), Of: of, Fields: []shape.Field{{Size: b}, {Size: -1}, {Size: 0}}, Facts: facts},
					{Sort: shape.Sort(b), Of: of, Fields: []shape.Field{{Size: 2}, {Size: 1}, {Size: a}}, Facts: facts},
					{Sort: shape.Guard, Of: a},
					{Sort: shape.Counted, Of: b},
				}
				for _, tab := range []shape.Table{nil, table} {
					for mode := range sign.Mode(6) {
						list := []sign.Param{{Mode: mode, Type: a}, {Mode: sign.Mode(b), Type: of}, {Mode: mode, Type: 0}, {Mode: mode, Type: 1}, {Mode: sign.Own, Type: b}, {Mode: sign.Ref, Type: 2}}
						s, e := Begin(sign.Sig{Params: list}, tab)
						if e == api.OK && (len(s.Vars) != len(list) || len(s.Blocks) != len(list) || len(s.Counts) != len(list)) {
							t.Fatalf("P14.1: of %+v over %+v: %+v", list, tab, s)
						}
					}
				}
			}
		}
	}
}
