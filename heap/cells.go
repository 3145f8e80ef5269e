package heap

import (
	"cmp"
	"slices"

	"lychgate/api"
	"lychgate/diff"
)

// Load: what stands in a cell.
func (h *Heap) Load(p, index Sym) (Sym, api.Errno) {
	c, e := h.reach(p, index, false)
	switch {
	case e != api.OK:
		return Sym{}, e
	case c.Array:
		return h.Fresh()
	case c.Cells[index.K].Kind == None:
		return Sym{}, api.ErrPoison
	}
	return c.Cells[index.K], api.OK
}

// Store: a value in a cell.
func (h *Heap) Store(p, index, v Sym) api.Errno {
	c, e := h.reach(p, index, true)
	switch {
	case e != api.OK:
		return e
	case v.Kind == None:
		return api.ErrPoison
	case !c.Array:
		c.Cells[index.K] = v
	case v.Kind != Int:
		return api.ErrType
	}
	return api.OK
}

// Free: the block is there no more.
func (h *Heap) Free(p Sym) api.Errno {
	c, e := h.chunk(p)
	if e != api.OK {
		return e
	}
	switch c.Origin {
	case Read, ReadInner:
		return api.ErrWrite
	case Lent, Shared, Locked:
		return api.ErrGone
	}
	c.Live = false
	return api.OK
}

// Lock: the other cells are one's own.
func (h *Heap) Lock(p Sym, n int64, facts []diff.Leq) api.Errno {
	c, e := h.lock(p, n, false)
	if e != api.OK {
		return e
	}
	before := *h
	cells, e := h.opened(c)
	if e == api.OK {
		e = h.Assume(Over(facts, cells)...)
	}
	if e != api.OK {
		*h = before
		return e
	}
	c.Cells, c.Held = cells, true
	return api.OK
}

// Unlock: they aren't any more.
func (h *Heap) Unlock(p Sym, n int64, facts []diff.Leq) api.Errno {
	c, e := h.lock(p, n, true)
	if e != api.OK {
		return e
	}
	for i, v := range c.Cells {
		if i != c.At && v.Kind != Int {
			return api.ErrOwed
		}
	}
	for _, f := range Over(facts, c.Cells) {
		if !h.Entails(f) {
			return api.ErrOwed
		}
	}
	clear(c.Cells)
	c.Held = false
	return api.OK
}

// wanted: why the value isn't of the kind that is asked.
func wanted(s Sym, kind Kind) api.Errno {
	switch s.Kind {
	case kind:
		return api.OK
	case None:
		return api.ErrPoison
	}
	return api.ErrType
}

// chunk: the live chunk that p names.
func (h *Heap) chunk(p Sym) (*Chunk, api.Errno) {
	if e := wanted(p, Ptr); e != api.OK {
		return nil, e
	}
	if h == nil || p.Block < 0 || p.Block >= len(h.Chunks) || !h.Chunks[p.Block].Live {
		return nil, api.ErrGone
	}
	return &h.Chunks[p.Block], api.OK
}

// reach: the chunk that p names, if its cell at the index may be read, or written.
func (h *Heap) reach(p, index Sym, write bool) (*Chunk, api.Errno) {
	if e := cmp.Or(wanted(p, Ptr), wanted(index, Int)); e != api.OK {
		return nil, e
	}
	c, e := h.chunk(p)
	switch {
	case e != api.OK:
		return nil, e
	case write && (c.Origin == Read || c.Origin == ReadInner):
		return nil, api.ErrWrite
	case c.Origin == Locked && !c.Held:
		return nil, api.ErrHeld
	case !h.inside(c, index):
		return nil, api.ErrBounds
	case c.Origin == Locked && !c.Array && index.K == int64(c.At):
		return nil, api.ErrHeld
	}
	return c, api.OK
}

// inside: is there surely a cell of the chunk at the index?
func (h *Heap) inside(c *Chunk, index Sym) bool {
	if c.Array {
		return h.Entails(diff.Leq{X: 0, Y: index.Var, C: index.K}) &&
			h.Entails(diff.Leq{X: index.Var, Y: c.Size.Var, C: c.Size.K - 1 - index.K})
	}
	return index.Var == 0 && index.K >= 0 && index.K < int64(len(c.Cells))
}

// lock: the chunk that p names, if it is a lock with the cell n that is held, or isn't, as asked.
func (h *Heap) lock(p Sym, n int64, held bool) (*Chunk, api.Errno) {
	c, e := h.chunk(p)
	switch {
	case e != api.OK:
		return nil, e
	case c.Origin != Locked || c.Held != held:
		return nil, api.ErrHeld
	case n != int64(c.At):
		return nil, api.ErrBounds
	}
	return c, api.OK
}

// opened: the cells of a lock that is going to be held: of all but the one that locks nothing is known as yet.
func (h *Heap) opened(c *Chunk) ([]Sym, api.Errno) {
	cells := slices.Clone(c.Cells)
	for i := range cells {
		if i == c.At {
			continue
		}
		v, e := h.Fresh()
		if e != api.OK {
			return nil, e
		}
		cells[i] = v
	}
	return cells, api.OK
}
