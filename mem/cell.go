package mem

// block is a block as it is kept; it stays when it is freed, as it is still told then.
type block struct {
	live  bool
	cells []cell
}

// cell is a value and what is being done with it: nobody reads it while it is written.
type cell struct {
	holds   Value
	readers int
	writer  bool
}

func (b block) told() Block {
	out := Block{
		Live:    b.live,
		Cells:   make([]Value, len(b.cells)),
		Readers: make([]int, len(b.cells)),
		Writer:  make([]bool, len(b.cells)),
	}
	for i, c := range b.cells {
		out.Cells[i], out.Readers[i], out.Writer[i] = c.holds, c.readers, c.writer
	}
	return out
}

func (c cell) busy() bool { return c.readers > 0 || c.writer }

func (c *cell) beginRead() Stuck {
	if c.writer {
		return Race
	}
	c.readers++
	return Fine
}

func (c *cell) beginWrite() Stuck {
	if c.busy() {
		return Race
	}
	c.writer = true
	return Fine
}

// endRead: the read is over also where there was nothing to be read.
func (c *cell) endRead() (Value, Stuck) {
	if c.readers == 0 {
		return Value{}, Race
	}
	c.readers--
	if c.holds.Kind == Poison {
		return Value{}, Empty
	}
	return c.holds, Fine
}

func (c *cell) endWrite(v Value) Stuck {
	if !c.writer {
		return Race
	}
	c.writer = false
	c.holds = needed(v)
	return Fine
}

// needed: the value with those fields alone that its Kind needs; poison, if its Kind is none.
func needed(v Value) Value {
	switch v.Kind {
	case Int:
		return Value{Kind: Int, N: v.N}
	case Ptr:
		return v
	}
	return Value{}
}
