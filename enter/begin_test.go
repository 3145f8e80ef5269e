package enter

import (
	"slices"
	"testing"

	"lychgate/api"
	"lychgate/diff"
	"lychgate/heap"
	"lychgate/shape"
	"lychgate/sign"
	"lychgate/syntax"
)

// read: the types and the signatures of a text.
func read(t *testing.T, text string) (shape.Table, []sign.Sig) {
	t.Helper()
	n, at, e := syntax.Parse(text)
	if e != api.OK {
		t.Fatalf("%q isn't read: error %d at %d", text, e, at)
	}
	table, at, e := shape.Types(n)
	if e != api.OK {
		t.Fatalf("%q has no types: error %d at %d", text, e, at)
	}
	sigs, at, e := sign.Sigs(n, table)
	if e != api.OK {
		t.Fatalf("%q has no signatures: error %d at %d", text, e, at)
	}
	return table, sigs
}

// beginOf: what Begin answers of a text's one function.
func beginOf(t *testing.T, text string) (Start, api.Errno) {
	t.Helper()
	table, sigs := read(t, text)
	if len(sigs) != 1 {
		t.Fatalf("%q must have one function", text)
	}
	return Begin(sigs[0], table)
}

// v: the Int that a fresh variable is.
func v(variable int) heap.Sym { return heap.Sym{Kind: heap.Int, Var: variable} }

func ptr(block int) heap.Sym { return heap.Sym{Kind: heap.Ptr, Block: block} }

func le(x, y int, c int64) diff.Leq { return diff.Leq{X: x, Y: y, C: c} }

// fresh: the facts of the variables from first to last, as they are made.
func fresh(first, last int) []diff.Leq {
	var facts []diff.Leq
	for variable := first; variable <= last; variable++ {
		facts = append(facts, le(variable, 0, 1<<40), le(0, variable, 1<<40))
	}
	return facts
}

// sized: the facts of an array whose size is this variable.
func sized(variable int) []diff.Leq {
	return []diff.Leq{le(0, variable, 0), le(variable, 0, 256)}
}

func block(origin heap.Origin, number, at int, cells ...heap.Sym) heap.Chunk {
	return heap.Chunk{Origin: origin, Type: number, At: at, Live: true, Cells: cells}
}

func held(number, at int, cells ...heap.Sym) heap.Chunk {
	return heap.Chunk{Origin: heap.Locked, Type: number, At: at, Live: true, Held: true, Cells: cells}
}

func array(origin heap.Origin, size heap.Sym) heap.Chunk {
	return heap.Chunk{Origin: origin, Type: -1, At: -1, Live: true, Array: true, Size: size}
}

// heapOf: a heap with so many variables, these facts in their order, and these chunks.
func heapOf(vars int, facts []diff.Leq, chunks ...heap.Chunk) *heap.Heap {
	return &heap.Heap{Chunks: chunks, Vars: vars, Facts: facts}
}

func sameChunk(a, b heap.Chunk) bool {
	return a.Origin == b.Origin && a.Type == b.Type && a.At == b.At && a.Live == b.Live && a.Held == b.Held &&
		a.Array == b.Array && a.Size == b.Size && slices.Equal(a.Cells, b.Cells)
}

func sameHeap(a, b *heap.Heap) bool {
	if a == nil || b == nil {
		return a == b
	}
	return slices.EqualFunc(a.Chunks, b.Chunks, sameChunk) && a.Vars == b.Vars && slices.Equal(a.Facts, b.Facts)
}

// same: are they the same in all fields? An empty list may be nil or not.
func same(a, b Start) bool {
	return sameHeap(a.Heap, b.Heap) && slices.Equal(a.Vars, b.Vars) && slices.Equal(a.Blocks, b.Blocks) && slices.Equal(a.Counts, b.Counts)
}

// wantSame holds what is answered without an error against what must be.
func wantSame(t *testing.T, what string, got Start, e api.Errno, want Start) {
	t.Helper()
	if e != api.OK {
		t.Errorf("P14.1: %s: error %d, want none", what, e)
		return
	}
	if !same(got, want) {
		t.Errorf("P14.1: %s:\n got %+v of\n     %+v\nwant %+v of\n     %+v", what, got, got.Heap, want, want.Heap)
	}
}

// wantStart holds a text with one function against what is known at its beginning.
func wantStart(t *testing.T, text string, want Start) {
	t.Helper()
	got, e := beginOf(t, text)
	wantSame(t, text, got, e, want)
}

// one: a Start of the one parameter a, which is the Ptr to the chunk 0.
func one(h *heap.Heap, count heap.Sym) Start {
	return Start{Heap: h, Vars: []Var{{"a", ptr(0)}}, Blocks: []int{0}, Counts: []heap.Sym{count}}
}

// wantOne holds a type, named o, of which a function has the one parameter a, against the heap of its beginning.
func wantOne(t *testing.T, types, mode string, h *heap.Heap) {
	t.Helper()
	wantStart(t, types+" fn f(a: "+mode+"o) { }", one(h, heap.Sym{}))
}

// None, as a cell that nothing is known of.
var null heap.Sym

// example is the chapter's.
const example = "type vec own { len, cap, d[cap] } where 0 <= len, len <= cap; fn get(v: &vec, i: int) -> int { return i; }"

func TestP141Example(t *testing.T) {
	facts := slices.Concat(fresh(1, 2), []diff.Leq{le(0, 1, 0), le(1, 2, 0)}, sized(2), fresh(3, 3))
	wantStart(t, example, Start{
		Heap:   heapOf(4, facts, block(heap.Read, 0, -1, v(1), v(2), ptr(1)), array(heap.ReadInner, v(2))),
		Vars:   []Var{{"v", ptr(0)}, {"i", v(3)}},
		Blocks: []int{0, -1},
		Counts: []heap.Sym{null, null},
	})
}

// TestP141Nothing: of no parameters a heap is there, in which the variable 0 alone is.
func TestP141Nothing(t *testing.T) {
	want := Start{Heap: &heap.Heap{Vars: 1}}
	wantStart(t, "fn f() { }", want)
	wantStart(t, "fn f() -> int { }", want)
	wantStart(t, types+"fn f() -> own o { }", want)
	got, e := Begin(sign.Sig{}, nil)
	wantSame(t, "the zero signature", got, e, want)
}

func TestP141Ints(t *testing.T) {
	wantStart(t, "fn f(i: int) { }", Start{heapOf(2, fresh(1, 1)), []Var{{"i", v(1)}}, []int{-1}, []heap.Sym{null}})
	wantStart(t, types+"fn f(z: int, a: int, i: int) -> own o { }", Start{
		heapOf(4, fresh(1, 3)), []Var{{"z", v(1)}, {"a", v(2)}, {"i", v(3)}}, []int{-1, -1, -1}, []heap.Sym{null, null, null},
	})
}

// types has a type of each sort, of the numbers 1 to 5, and ahead of them one that is none of those asked for.
const types = "type z own { q } where q < 1; type o own { n, d[n], m } where 0 <= n, n < m; type c cell { x, y } where x <= y; type r counted n { x, n, y } where x == y; type m lock l { x, l, y } where x < y + 3; type g guard m; "

// TestP141Modes: the Param of each mode with each sort of type.
func TestP141Modes(t *testing.T) {
	of := map[string]func(origin heap.Origin) Start{
		"o": func(origin heap.Origin) Start {
			inner := heap.Inner
			if origin == heap.Read {
				inner = heap.ReadInner
			}
			facts := slices.Concat(fresh(1, 2), []diff.Leq{le(0, 1, 0), le(1, 2, -1)}, sized(1))
			return one(heapOf(3, facts, block(origin, 1, -1, v(1), ptr(1), v(2)), array(inner, v(1))), null)
		},
		"c": func(origin heap.Origin) Start {
			return one(heapOf(3, append(fresh(1, 2), le(1, 2, 0)), block(origin, 2, -1, v(1), v(2))), null)
		},
		"r": func(origin heap.Origin) Start {
			facts := append(fresh(1, 3), le(1, 3, 0), le(3, 1, 0), le(0, 2, -1))
			return one(heapOf(4, facts, block(origin, 3, 1, v(1), v(2), v(3))), v(2))
		},
		"m": func(origin heap.Origin) Start {
			return one(heapOf(1, nil, block(origin, 4, 1, null, null, null)), null)
		},
		"g": func(origin heap.Origin) Start {
			c := block(origin, 4, 1, v(1), null, v(2))
			c.Held = true
			return one(heapOf(3, append(fresh(1, 2), le(1, 2, 2)), c), null)
		},
	}
	for name, origins := range map[string][3]heap.Origin{
		"o": {heap.Taken, heap.Read, heap.Lent},
		"c": {heap.Taken, heap.Shared, heap.Shared},
		"r": {heap.Count, heap.Count, heap.Count},
		"m": {heap.Locked, heap.Locked, heap.Locked},
		"g": {heap.Locked, heap.Locked, heap.Locked},
	} {
		for i, mode := range []string{"own ", "&", "&mut "} {
			for _, result := range []string{"", "-> int ", "-> own " + name + " ", "-> own z "} {
				wantStart(t, types+"fn f(a: "+mode+name+") "+result+"{ }", of[name](origins[i]))
			}
		}
	}
}

// TestP141Order: the parameters of all sorts, one behind the other: their variables, chunks and facts in their order.
func TestP141Order(t *testing.T) {
	facts := slices.Concat(
		fresh(1, 1),
		fresh(2, 3), []diff.Leq{le(0, 2, 0), le(2, 3, -1)}, sized(2),
		fresh(4, 6), []diff.Leq{le(4, 6, 0), le(6, 4, 0), le(0, 5, -1)},
		fresh(7, 8), []diff.Leq{le(7, 8, 2)},
		fresh(9, 10), []diff.Leq{le(0, 9, 0), le(9, 10, -1)}, sized(9),
		fresh(11, 12), []diff.Leq{le(11, 12, 0)},
		fresh(13, 13),
	)
	wantStart(t, types+"fn f(i: int, a: &mut o, b: &r, c: own g, d: &m, e: &o, h: &mut c, j: int) -> int { }", Start{
		Heap: heapOf(14, facts,
			block(heap.Lent, 1, -1, v(2), ptr(1), v(3)), array(heap.Inner, v(2)),
			block(heap.Count, 3, 1, v(4), v(5), v(6)),
			held(4, 1, v(7), null, v(8)),
			block(heap.Locked, 4, 1, null, null, null),
			block(heap.Read, 1, -1, v(9), ptr(6), v(10)), array(heap.ReadInner, v(9)),
			block(heap.Shared, 2, -1, v(11), v(12)),
		),
		Vars:   []Var{{"i", v(1)}, {"a", ptr(0)}, {"b", ptr(2)}, {"c", ptr(3)}, {"d", ptr(4)}, {"e", ptr(5)}, {"h", ptr(7)}, {"j", v(13)}},
		Blocks: []int{-1, 0, 2, 3, 4, 5, 7, -1},
		Counts: []heap.Sym{null, null, v(5), null, null, null, null, null},
	})
	// The other way round the lock is ahead of its guard, and nothing of it is known.
	facts = slices.Concat(fresh(1, 1), fresh(2, 3), []diff.Leq{le(2, 3, 2)}, fresh(4, 6), []diff.Leq{le(4, 6, 0), le(6, 4, 0), le(0, 5, -1)})
	wantStart(t, types+"fn f(d: own m, j: int, c: &g, b: &mut r) { }", Start{
		Heap: heapOf(7, facts,
			block(heap.Locked, 4, 1, null, null, null),
			held(4, 1, v(2), null, v(3)),
			block(heap.Count, 3, 1, v(4), v(5), v(6)),
		),
		Vars:   []Var{{"d", ptr(0)}, {"j", v(1)}, {"c", ptr(1)}, {"b", ptr(2)}},
		Blocks: []int{0, -1, 1, 2},
		Counts: []heap.Sym{null, null, null, v(5)},
	})
}

// TestP141SameType: several parameters of one type are each a block of its own.
func TestP141SameType(t *testing.T) {
	facts := slices.Concat(
		fresh(1, 2), []diff.Leq{le(0, 1, 0), le(1, 2, -1)}, sized(1),
		fresh(3, 4), []diff.Leq{le(0, 3, 0), le(3, 4, -1)}, sized(3),
		fresh(5, 6), []diff.Leq{le(0, 5, 0), le(5, 6, -1)}, sized(5),
	)
	wantStart(t, types+"fn f(a: own o, b: &o, c: &mut o) { }", Start{
		Heap: heapOf(7, facts,
			block(heap.Taken, 1, -1, v(1), ptr(1), v(2)), array(heap.Inner, v(1)),
			block(heap.Read, 1, -1, v(3), ptr(3), v(4)), array(heap.ReadInner, v(3)),
			block(heap.Lent, 1, -1, v(5), ptr(5), v(6)), array(heap.Inner, v(5)),
		),
		Vars: []Var{{"a", ptr(0)}, {"b", ptr(2)}, {"c", ptr(4)}}, Blocks: []int{0, 2, 4}, Counts: []heap.Sym{null, null, null},
	})
}

// TestP141Count: the counting cell ahead of, between and behind other fields, and alone.
func TestP141Count(t *testing.T) {
	for fields, want := range map[string]struct {
		at, many int
		facts    []diff.Leq
	}{
		"n, x, y } where x <= y;": {0, 3, []diff.Leq{le(2, 3, 0), le(0, 1, -1)}},
		"x, n, y } where x <= y;": {1, 3, []diff.Leq{le(1, 3, 0), le(0, 2, -1)}},
		"x, y, n } where x <= y;": {2, 3, []diff.Leq{le(1, 2, 0), le(0, 3, -1)}},
		"n };":                    {0, 1, []diff.Leq{le(0, 1, -1)}},
		"n, x };":                 {0, 2, []diff.Leq{le(0, 1, -1)}},
		"x, n };":                 {1, 2, []diff.Leq{le(0, 2, -1)}},
	} {
		var cells []heap.Sym
		for i := range want.many {
			cells = append(cells, v(i+1))
		}
		h := heapOf(want.many+1, append(fresh(1, want.many), want.facts...), block(heap.Count, 0, want.at, cells...))
		for _, mode := range []string{"own ", "&", "&mut "} {
			wantStart(t, "type o counted n { "+fields+" fn f(a: "+mode+"o) { }", one(h, cells[want.at]))
		}
	}
}

// TestP141Lock: the locking cell ahead of, between and behind other fields, and alone. Only with a guard anything is known.
func TestP141Lock(t *testing.T) {
	for fields, want := range map[string]struct {
		at    int
		cells []heap.Sym
		facts []diff.Leq
	}{
		"l, x, y } where x <= y;": {0, []heap.Sym{null, v(1), v(2)}, []diff.Leq{le(1, 2, 0)}},
		"x, l, y } where x <= y;": {1, []heap.Sym{v(1), null, v(2)}, []diff.Leq{le(1, 2, 0)}},
		"x, y, l } where x <= y;": {2, []heap.Sym{v(1), v(2), null}, []diff.Leq{le(1, 2, 0)}},
		"l } where 1 <= 0;":       {0, []heap.Sym{null}, []diff.Leq{le(0, 0, -1)}},
		"l };":                    {0, []heap.Sym{null}, nil},
		"x, l };":                 {1, []heap.Sym{v(1), null}, nil},
	} {
		many := max(0, len(want.cells)-1)
		opened := heapOf(many+1, append(fresh(1, many), want.facts...), held(1, want.at, want.cells...))
		locked := heapOf(1, nil, block(heap.Locked, 1, want.at, make([]heap.Sym, len(want.cells))...))
		text := "type z cell; type m lock l { " + fields + " type y cell; type g guard m; "
		for _, mode := range []string{"own ", "&", "&mut "} {
			wantStart(t, text+"fn f(a: "+mode+"m) { }", one(locked, null))
			wantStart(t, text+"fn f(a: "+mode+"g) { }", one(opened, null))
		}
	}
}

// TestP141Guards: each guard is of its own lock, wherever the two stand, and two may be of one.
func TestP141Guards(t *testing.T) {
	text := "type m lock l { l, x } where x < 1; type n lock l { x, y, l } where y < 2, 3 <= x; type g guard n; type h guard m; type k guard n; "
	facts := slices.Concat(fresh(1, 2), []diff.Leq{le(2, 0, 1), le(0, 1, -3)}, fresh(3, 3), []diff.Leq{le(3, 0, 0)}, fresh(4, 5), []diff.Leq{le(5, 0, 1), le(0, 4, -3)})
	wantStart(t, text+"fn f(a: &g, n: own n, b: &mut h, c: own k) { }", Start{
		Heap: heapOf(6, facts,
			held(1, 2, v(1), v(2), null),
			block(heap.Locked, 1, 2, null, null, null),
			held(0, 0, null, v(3)),
			held(1, 2, v(4), v(5), null),
		),
		Vars: []Var{{"a", ptr(0)}, {"n", ptr(1)}, {"b", ptr(2)}, {"c", ptr(3)}}, Blocks: []int{0, 1, 2, 3}, Counts: []heap.Sym{null, null, null, null},
	})
}

// TestP141Fields: types without fields, with one, and with as many as there may be.
func TestP141Fields(t *testing.T) {
	wantOne(t, "type o own;", "own ", heapOf(1, nil, block(heap.Taken, 0, -1)))
	wantOne(t, "type o cell;", "&", heapOf(1, nil, block(heap.Shared, 0, -1)))
	wantOne(t, "type o own { x };", "&mut ", heapOf(2, fresh(1, 1), block(heap.Lent, 0, -1, v(1))))
	wantOne(t, "type o cell { x };", "own ", heapOf(2, fresh(1, 1), block(heap.Taken, 0, -1, v(1))))
	eight := []heap.Sym{v(1), v(2), v(3), v(4), v(5), v(6), v(7), v(8)}
	if len(eight) != api.MaxFields {
		t.Fatalf("MaxFields is %d", api.MaxFields)
	}
	wantOne(t, "type o own { a, b, c, d, e, f, g, h };", "&", heapOf(9, fresh(1, 8), block(heap.Read, 0, -1, eight...)))
	// Facts may stand where there are no fields.
	wantOne(t, "type o own where 0 < 1;", "own ", heapOf(1, []diff.Leq{le(0, 0, 0)}, block(heap.Taken, 0, -1)))
}

// TestP141Arrays: several arrays, of one Size field and of different ones, ahead of it and behind it.
func TestP141Arrays(t *testing.T) {
	for text, want := range map[string]struct {
		last  int
		cells []heap.Sym
		sizes []int
	}{
		"n, d[n]":                {1, []heap.Sym{v(1), ptr(1)}, []int{1}},
		"d[n], n":                {1, []heap.Sym{ptr(1), v(1)}, []int{1}},
		"m, d[n], n":             {2, []heap.Sym{v(1), ptr(1), v(2)}, []int{2}},
		"n, m, d[n]":             {2, []heap.Sym{v(1), v(2), ptr(1)}, []int{1}},
		"n, d[n], e[n]":          {1, []heap.Sym{v(1), ptr(1), ptr(2)}, []int{1, 1}},
		"d[n], n, e[n]":          {1, []heap.Sym{ptr(1), v(1), ptr(2)}, []int{1, 1}},
		"d[n], e[n], n":          {1, []heap.Sym{ptr(1), ptr(2), v(1)}, []int{1, 1}},
		"n, d[n], m, e[m]":       {2, []heap.Sym{v(1), ptr(1), v(2), ptr(2)}, []int{1, 2}},
		"n, m, d[m], e[n]":       {2, []heap.Sym{v(1), v(2), ptr(1), ptr(2)}, []int{2, 1}},
		"d[m], n, e[n], m":       {2, []heap.Sym{ptr(1), v(1), ptr(2), v(2)}, []int{2, 1}},
		"e[n], m, d[n], n, c[m]": {2, []heap.Sym{ptr(1), v(1), ptr(2), v(2), ptr(3)}, []int{2, 2, 1}},
		"a[h], b[h], c[h], d[h], e[h], f[h], g[h], h": {1, []heap.Sym{ptr(1), ptr(2), ptr(3), ptr(4), ptr(5), ptr(6), ptr(7), v(1)}, []int{1, 1, 1, 1, 1, 1, 1}},
	} {
		for mode, origins := range map[string][2]heap.Origin{"own ": {heap.Taken, heap.Inner}, "&": {heap.Read, heap.ReadInner}, "&mut ": {heap.Lent, heap.Inner}} {
			facts := fresh(1, want.last)
			chunks := []heap.Chunk{block(origins[0], 0, -1, want.cells...)}
			for _, size := range want.sizes {
				facts = append(facts, sized(size)...)
				chunks = append(chunks, array(origins[1], v(size)))
			}
			wantOne(t, "type o own { "+text+" };", mode, heapOf(want.last+1, facts, chunks...))
		}
	}
}

// TestP141ArraysBehind: the arrays of each parameter stand right behind it, wherever its chunk is.
func TestP141ArraysBehind(t *testing.T) {
	facts := slices.Concat(fresh(1, 1), fresh(2, 3), sized(3), sized(2), fresh(4, 4), fresh(5, 6), sized(6), sized(5))
	wantStart(t, "type c cell { x }; type o own { m, d[n], n, e[m] }; fn f(x: &c, a: &mut o, y: int, b: &o) { }", Start{
		Heap: heapOf(7, facts,
			block(heap.Shared, 0, -1, v(1)),
			block(heap.Lent, 1, -1, v(2), ptr(2), v(3), ptr(3)), array(heap.Inner, v(3)), array(heap.Inner, v(2)),
			block(heap.Read, 1, -1, v(5), ptr(5), v(6), ptr(6)), array(heap.ReadInner, v(6)), array(heap.ReadInner, v(5)),
		),
		Vars: []Var{{"x", ptr(0)}, {"a", ptr(1)}, {"y", v(4)}, {"b", ptr(4)}}, Blocks: []int{0, 1, -1, 4}, Counts: []heap.Sym{null, null, null, null},
	})
}

// TestP141Facts: facts of no field, of one and of two, with each comparison, of fields that stand behind others and behind arrays.
func TestP141Facts(t *testing.T) {
	for where, facts := range map[string][]diff.Leq{
		"":                                  nil,
		" where x < y":                      {le(1, 2, -1)},
		" where x <= y":                     {le(1, 2, 0)},
		" where x == y":                     {le(1, 2, 0), le(2, 1, 0)},
		" where y < x":                      {le(2, 1, -1)},
		" where 5 <= x":                     {le(0, 1, -5)},
		" where x < -7":                     {le(1, 0, -8)},
		" where y == 3":                     {le(2, 0, 3), le(0, 2, -3)},
		" where x + 2 <= y - 4":             {le(1, 2, -6)},
		" where x - 1 == y + 9":             {le(1, 2, 10), le(2, 1, -10)},
		" where x <= x":                     {le(1, 1, 0)},
		" where x < x":                      {le(1, 1, -1)},
		" where 1 <= 2":                     {le(0, 0, 1)},
		" where 2 < 1":                      {le(0, 0, -2)},
		" where x + 1099511627776 < y":      {le(1, 2, -1<<40-1)},
		" where x <= y + 1099511627776":     {le(1, 2, 1<<40)},
		" where x < y, y < x, x < y":        {le(1, 2, -1), le(2, 1, -1), le(1, 2, -1)},
		" where y < 9, x == y + 1, 0 <= x":  {le(2, 0, 8), le(1, 2, 1), le(2, 1, -1), le(0, 1, 0)},
		" where y <= 4, 0 <= y, x < 1, x<2": {le(2, 0, 4), le(0, 2, 0), le(1, 0, 0), le(1, 0, 1)},
	} {
		plain := append(fresh(1, 2), facts...)
		wantOne(t, "type o own { x, y }"+where+";", "own ", heapOf(3, plain, block(heap.Taken, 0, -1, v(1), v(2))))
		wantOne(t, "type o cell { x, y }"+where+";", "&mut ", heapOf(3, plain, block(heap.Shared, 0, -1, v(1), v(2))))
		wantOne(t, "type o own { d[y], x, e[x], y }"+where+";", "&", heapOf(3, slices.Concat(plain, sized(2), sized(1)),
			block(heap.Read, 0, -1, ptr(1), v(1), ptr(2), v(2)), array(heap.ReadInner, v(2)), array(heap.ReadInner, v(1))))
		wantStart(t, "type m lock l { x, l, y }"+where+"; type g guard m; fn f(a: &g) { }", one(heapOf(3, plain, held(0, 1, v(1), null, v(2))), null))
	}
}

// TestP141FactsLater: the facts of a parameter behind others are of its own variables.
func TestP141FactsLater(t *testing.T) {
	facts := slices.Concat(fresh(1, 2), fresh(3, 5), []diff.Leq{le(3, 5, 7), le(0, 4, -2), le(4, 0, 2)})
	wantStart(t, "type o own { x, y, z } where x <= z + 7, 2 == y; fn f(i: int, j: int, a: &o) { }", Start{
		heapOf(6, facts, block(heap.Read, 0, -1, v(3), v(4), v(5))), []Var{{"i", v(1)}, {"j", v(2)}, {"a", ptr(0)}}, []int{-1, -1, 0}, []heap.Sym{null, null, null},
	})
}

// TestP141Params: as many parameters as there may be, and with as many fields.
func TestP141Params(t *testing.T) {
	names := []string{"a", "b", "c", "d", "e", "f", "g", "h"}
	if len(names) != api.MaxParams {
		t.Fatalf("MaxParams is %d", api.MaxParams)
	}
	ints := Start{Heap: &heap.Heap{Vars: 1}}
	wide := Start{Heap: &heap.Heap{Vars: 1}}
	var intText, wideText string
	for i, name := range names {
		intText += name + ": int, "
		wideText += name + ": &mut o, "
		ints.Vars, wide.Vars = append(ints.Vars, Var{name, v(i + 1)}), append(wide.Vars, Var{name, ptr(i)})
		ints.Blocks, wide.Blocks = append(ints.Blocks, -1), append(wide.Blocks, i)
		ints.Counts, wide.Counts = append(ints.Counts, null), append(wide.Counts, null)
		ints.Heap.Vars++
		ints.Heap.Facts = append(ints.Heap.Facts, fresh(i+1, i+1)...)
		c := block(heap.Lent, 0, -1)
		for field := range api.MaxFields {
			c.Cells = append(c.Cells, v(8*i+field+1))
		}
		wide.Heap.Vars += 8
		wide.Heap.Facts = append(wide.Heap.Facts, fresh(8*i+1, 8*i+8)...)
		wide.Heap.Chunks = append(wide.Heap.Chunks, c)
		wantStart(t, "fn f("+intText[:len(intText)-2]+") { }", ints)
		wantStart(t, "type o own { a, b, c, d, e, f, g, h }; fn f("+wideText[:len(wideText)-2]+") { }", wide)
	}
}

// TestP141Dead: facts that can't hold together are known like others.
func TestP141Dead(t *testing.T) {
	text := "type o own { x, y } where x < y, y < x; fn f(a: &o) { }"
	wantStart(t, text, one(heapOf(3, append(fresh(1, 2), le(1, 2, -1), le(2, 1, -1)), block(heap.Read, 0, -1, v(1), v(2))), null))
	if s, _ := beginOf(t, text); !s.Heap.Dead() {
		t.Errorf("P14.1: of %q the heap isn't Dead", text)
	}
	if s, _ := beginOf(t, example); s.Heap.Dead() {
		t.Errorf("P14.1: of %q the heap is Dead", example)
	}
}

// TestP141NamesAndResult: a function's name and what it gives say nothing of its beginning, and any parameter may have any name.
func TestP141NamesAndResult(t *testing.T) {
	table, sigs := read(t, example)
	want, _ := Begin(sigs[0], table)
	for _, ret := range []sign.Param{{}, {Mode: sign.Own}, {Mode: sign.Own, Type: 77}, {Name: "v", Mode: sign.Mut, Type: -1}} {
		sig := sign.Sig{Name: "", Params: sigs[0].Params, Ret: ret}
		got, e := Begin(sig, table)
		wantSame(t, "another result and no name", got, e, want)
	}
	for _, name := range []string{"", "i", "\x00\xff", "a name that no text has, as it is too long"} {
		sig := sign.Sig{Params: []sign.Param{{Name: name, Mode: sign.Ref}, {Name: name, Mode: sign.Int}}}
		got, e := Begin(sig, table)
		want.Vars = []Var{{name, ptr(0)}, {name, v(3)}}
		wantSame(t, name, got, e, want)
	}
}

// TestP141ByHand: types as no text has them: arrays are made of the sort own alone, and what isn't there is none.
func TestP141ByHand(t *testing.T) {
	fields := []shape.Field{{Name: "x", Size: -1}, {Name: "d", Size: 0}}
	table := shape.Table{{Sort: shape.Cell, Fields: fields}, {Sort: shape.Own, Fields: fields[1:]}, {Sort: shape.Counted, Of: 2, Fields: fields[:1]}}
	begin := func(number int) (Start, api.Errno) {
		return Begin(sign.Sig{Params: []sign.Param{{Name: "a", Mode: sign.Own, Type: number}}}, table)
	}
	got, e := begin(0)
	wantSame(t, "a cell with an array", got, e, one(heapOf(2, fresh(1, 1), block(heap.Taken, 0, -1, v(1), null)), null))
	got, e = begin(1)
	wantSame(t, "an array of no size", got, e, one(heapOf(1, sized(0), block(heap.Taken, 1, -1, ptr(1)), array(heap.Inner, null)), null))
	got, e = begin(2)
	wantSame(t, "a count that isn't there", got, e, one(heapOf(2, append(fresh(1, 1), le(0, 0, -1)), block(heap.Count, 2, 2, v(1))), null))
	for _, number := range []int{-1, 3} {
		got, e = begin(number)
		wantSame(t, "a type that isn't there", got, e, one(heapOf(1, nil, block(heap.Taken, number, -1)), null))
	}
}
