package enter

import (
	"lychgate/api"
	"lychgate/heap"
	"lychgate/shape"
	"lychgate/sign"
)

// none stands for a block, a type or a cell where there is none, and for the size of what is no array.
const none = -1

// noRoom is what the beginner panics with where the heap takes no more, so that no step of it has to hand the error on.
type noRoom struct {
	e api.Errno
}

// must leaves the beginning with the error that the heap answered, if it is one.
func must(e api.Errno) {
	if e != api.OK {
		panic(noRoom{e})
	}
}

// begin: what is known at the beginning of a function, or what there was no room for.
func begin(s sign.Sig, t shape.Table) (start Start, full noRoom) {
	defer func() {
		if r := recover(); r != nil {
			found, ok := r.(noRoom)
			if !ok {
				// Not for lack of room: hiding it would answer an empty Start and no error.
				panic(r)
			}
			full = found
		}
	}()
	b := &beginner{types: t, origins: origins(), start: Start{Heap: &heap.Heap{Vars: 1}}}
	for _, p := range s.Params {
		b.take(p)
	}
	return b.start, noRoom{}
}

// handed is how a value comes in: of a type of which sort, and in which mode.
type handed struct {
	sort shape.Sort
	mode sign.Mode
}

// origins: where the chunk of a value comes from that is handed over.
func origins() map[handed]heap.Origin {
	return map[handed]heap.Origin{
		{shape.Own, sign.Own}:     heap.Taken,
		{shape.Own, sign.Ref}:     heap.Read,
		{shape.Own, sign.Mut}:     heap.Lent,
		{shape.Cell, sign.Own}:    heap.Taken,
		{shape.Cell, sign.Ref}:    heap.Shared,
		{shape.Cell, sign.Mut}:    heap.Shared,
		{shape.Counted, sign.Own}: heap.Count,
		{shape.Counted, sign.Ref}: heap.Count,
		{shape.Counted, sign.Mut}: heap.Count,
		{shape.Lock, sign.Own}:    heap.Locked,
		{shape.Lock, sign.Ref}:    heap.Locked,
		{shape.Lock, sign.Mut}:    heap.Locked,
		{shape.Guard, sign.Own}:   heap.Locked,
		{shape.Guard, sign.Ref}:   heap.Locked,
		{shape.Guard, sign.Mut}:   heap.Locked,
	}
}

// beginner holds what is known of the parameters so far.
type beginner struct {
	types   shape.Table
	origins map[handed]heap.Origin
	start   Start
}

// take: one parameter more.
func (b *beginner) take(p sign.Param) {
	block := none
	var value, count heap.Sym
	if p.Mode == sign.Int {
		value = b.fresh()
	} else {
		value, count = b.lay(p)
		block = value.Block
	}
	b.start.Vars = append(b.start.Vars, Var{p.Name, value})
	b.start.Blocks = append(b.start.Blocks, block)
	b.start.Counts = append(b.start.Counts, count)
}

func (b *beginner) fresh() heap.Sym {
	v, e := b.start.Heap.Fresh()
	must(e)
	return v
}

// lay puts the chunk of a parameter, and those of its arrays. It tells the pointer, and how many hold the chunk, if its type is counted.
func (b *beginner) lay(p sign.Param) (value, count heap.Sym) {
	h := b.start.Heap
	c, t := b.chunk(p)
	if t.Sort == shape.Lock && !c.Held {
		// Another one may hold the lock, and write the cells.
		return h.Put(c), heap.Sym{}
	}
	b.fill(c, t.Fields)
	must(h.Assume(heap.Over(t.Facts, c.Cells)...))
	if t.Sort == shape.Counted {
		count = cell(c, c.At)
		must(h.Assume(shape.Facts("<", 0, count.Var, 0, 0)...))
	}
	var arrays []heap.Chunk
	if t.Sort == shape.Own {
		arrays = b.arrays(c, t.Fields)
	}
	value = h.Put(c)
	b.putArrays(arrays)
	return value, count
}

// chunk: the chunk of a parameter, of whose cells nothing is known as yet, and the type that says what they are: of a guard its lock's.
func (b *beginner) chunk(p sign.Param) (heap.Chunk, shape.Type) {
	t := b.typeOf(p.Type)
	c := heap.Chunk{Origin: b.origins[handed{t.Sort, p.Mode}], Type: p.Type, At: none, Live: true}
	switch t.Sort {
	case shape.Counted, shape.Lock:
		c.At = t.Of
	case shape.Guard:
		c.Type, c.Held = t.Of, true
		t = b.typeOf(t.Of)
		c.At = t.Of
	}
	c.Cells = make([]heap.Sym, len(t.Fields))
	return c, t
}

// typeOf: the type of that number. A signature made by hand may name one that isn't there: a type without fields in its place keeps every call from a panic.
func (b *beginner) typeOf(number int) shape.Type {
	if number < 0 || number >= len(b.types) {
		return shape.Type{}
	}
	return b.types[number]
}

// fill gives each cell of a number its variable, but the one that locks.
func (b *beginner) fill(c heap.Chunk, fields []shape.Field) {
	for i, f := range fields {
		locks := c.Held && i == c.At
		if f.Size == none && !locks {
			c.Cells[i] = b.fresh()
		}
	}
}

// cell: what stands in a cell; None where there is none, as of types made by hand.
func cell(c heap.Chunk, i int) heap.Sym {
	if i < 0 || i >= len(c.Cells) {
		return heap.Sym{}
	}
	return c.Cells[i]
}

// arrays: the chunks of a chunk's arrays, to which its cells are made to point. A heap changes by its own calls alone, so the pointers are there ahead of what they point to: the chunk itself is put next, and these right behind it.
func (b *beginner) arrays(c heap.Chunk, fields []shape.Field) []heap.Chunk {
	array := heap.Chunk{Origin: heap.Inner, Type: none, At: none, Live: true, Array: true}
	if c.Origin == heap.Read {
		array.Origin = heap.ReadInner
	}
	var arrays []heap.Chunk
	for i, f := range fields {
		if f.Size == none {
			continue
		}
		array.Size = cell(c, f.Size)
		arrays = append(arrays, array)
		c.Cells[i] = heap.Sym{Kind: heap.Ptr, Block: len(b.start.Heap.Chunks) + len(arrays)}
	}
	return arrays
}

// putArrays: each array has as many cells as a block may have.
func (b *beginner) putArrays(arrays []heap.Chunk) {
	h := b.start.Heap
	for _, a := range arrays {
		h.Put(a)
		must(h.Assume(shape.Facts("<=", 0, a.Size.Var, 0, 0)...))
		must(h.Assume(shape.Facts("<=", a.Size.Var, 0, 0, api.MaxBlock)...))
	}
}
