package heap

import (
	"math"
	"slices"
	"testing"

	"lychgate/api"
	"lychgate/diff"
)

// place is a cell of a block.
type place struct {
	block int
	cell  int64
}

// apart holds the least bound of each difference of two variables that facts tell; it takes one fact after the other.
type apart struct {
	least   [][]int64
	many    int
	far     bool // is a number beyond MaxDiff?
	refuted bool // can't they hold together?
}

// unbound: what two variables are apart of which nothing is told.
const unbound = math.MaxInt64 / 4

func (a *apart) variable() {
	n := len(a.least)
	row := make([]int64, n+1)
	for i := range a.least {
		a.least[i] = append(slices.Clip(a.least[i]), unbound)
		row[i] = unbound
	}
	a.least = append(slices.Clip(a.least), row)
}

func (a *apart) take(f diff.Leq) {
	a.many++
	a.far = a.far || f.C > 1<<43 || f.C < -1<<43
	a.refuted = a.refuted || a.least[f.Y][f.X]+f.C < 0
	if a.refuted || f.C >= a.least[f.X][f.Y] {
		return
	}
	before := make([]int64, len(a.least)) // of each variable, how far it is at most above X
	for x := range before {
		before[x] = a.least[x][f.X]
	}
	behind := slices.Clone(a.least[f.Y])
	for x, ahead := range before {
		for y, rest := range behind {
			if ahead < unbound && rest < unbound {
				a.least[x][y] = min(a.least[x][y], ahead+f.C+rest)
			}
		}
	}
}

// follows: layer 4's Entails, false where that can't be asked.
func (a *apart) follows(f diff.Leq) bool {
	asked := a.many < 768 && !a.far && f.C < 1<<43 && f.C >= -1<<43
	return asked && (a.refuted || a.least[f.X][f.Y] <= f.C)
}

// account is a second telling of the chapter's words: no lists of cells, but what places hold, and of each error whether it holds, of which the first one is taken.
type account struct {
	chunks []Chunk // without their cells
	many   []int   // how many cells each has
	cells  map[place]Sym
	facts  []diff.Leq
	apart  apart
}

func newAccount() *account {
	a := &account{cells: map[place]Sym{}}
	a.apart.variable()
	return a
}

func (a *account) copied() *account {
	out := newAccount()
	out.chunks, out.many, out.facts = slices.Clone(a.chunks), slices.Clone(a.many), slices.Clone(a.facts)
	for where, v := range a.cells {
		out.cells[where] = v
	}
	out.apart = a.apart
	out.apart.least = nil
	for _, row := range a.apart.least {
		out.apart.least = append(out.apart.least, slices.Clone(row))
	}
	return out
}

// heap: the heap that the account tells of.
func (a *account) heap() *Heap {
	h := &Heap{Vars: len(a.apart.least), Facts: a.facts}
	for i, c := range a.chunks {
		c.Cells = a.row(i)
		h.Chunks = append(h.Chunks, c)
	}
	return h
}

func (a *account) row(block int) []Sym {
	var out []Sym
	for i := range a.many[block] {
		out = append(out, a.cells[place{block, int64(i)}])
	}
	return out
}

func (a *account) assume(facts ...diff.Leq) {
	for _, f := range facts {
		a.facts = append(a.facts, f)
		a.apart.take(f)
	}
}

// reason is an error, and whether it holds.
type reason struct {
	is bool
	e  api.Errno
}

func firstOf(reasons ...reason) api.Errno {
	for _, r := range reasons {
		if r.is {
			return r.e
		}
	}
	return api.OK
}

// odd: the reasons why the value isn't of that Kind.
func odd(v Sym, kind Kind) []reason {
	return []reason{{v.Kind == None, api.ErrPoison}, {v.Kind != kind, api.ErrType}}
}

// named: the chunk that p names, one that isn't live, if there is none.
func (a *account) named(p Sym) Chunk {
	if p.Kind == Ptr && slices.Contains(indices(a.chunks), p.Block) {
		return a.chunks[p.Block]
	}
	return Chunk{}
}

func indices[T any](list []T) []int {
	var out []int
	for i := range list {
		out = append(out, i)
	}
	return out
}

func (a *account) unreached(p, index Sym, write bool) []reason {
	c := a.named(p)
	reasons := append(odd(p, Ptr), odd(index, Int)...)
	reasons = append(reasons, reason{!c.Live, api.ErrGone})
	reasons = append(reasons, reason{write && (c.Origin == Read || c.Origin == ReadInner), api.ErrWrite})
	reasons = append(reasons, reason{c.Origin == Locked && !c.Held, api.ErrHeld})
	if firstOf(reasons...) != api.OK {
		return reasons
	}
	if c.Array {
		above := a.apart.follows(le(0, index.Var, index.K))
		below := a.apart.follows(le(index.Var, c.Size.Var, c.Size.K-1-index.K))
		return append(reasons, reason{!above, api.ErrBounds}, reason{!below, api.ErrBounds})
	}
	reasons = append(reasons, reason{index.Var != 0, api.ErrBounds}, reason{index.K < 0, api.ErrBounds}, reason{index.K >= int64(a.many[p.Block]), api.ErrBounds})
	return append(reasons, reason{c.Origin == Locked && index.K == int64(c.At), api.ErrHeld})
}

// noRoom: is there no room for so many fresh variables, one after the other, and so many facts behind them?
func (a *account) noRoom(variables, facts int) reason {
	return reason{len(a.apart.least)+variables > 96 || a.apart.many+2*variables+facts > 768, api.ErrMany}
}

func (a *account) fresh() Sym {
	v := len(a.apart.least)
	a.apart.variable()
	a.assume(le(v, 0, 1<<40), le(0, v, 1<<40))
	return sum(v, 0)
}

func (a *account) add(s Sym, n int64) (Sym, api.Errno) {
	far := s.K+n > 1<<40 || s.K+n < -1<<40
	full := a.noRoom(1, 0)
	e := firstOf(reason{s.Kind == None, api.ErrPoison}, reason{n != 0 && s.Kind == Ptr, api.ErrType}, reason{n != 0 && far && full.is, api.ErrMany})
	switch {
	case e != api.OK:
		return Sym{}, e
	case n != 0 && far:
		return a.fresh(), api.OK
	}
	s.K += n
	return s, api.OK
}

func (a *account) put(c Chunk) Sym {
	for i, v := range c.Cells {
		a.cells[place{len(a.chunks), int64(i)}] = v
	}
	a.many = append(a.many, len(c.Cells))
	c.Cells = nil
	a.chunks = append(a.chunks, c)
	return ptr(len(a.chunks) - 1)
}

func (a *account) load(p, index Sym) (Sym, api.Errno) {
	reasons := a.unreached(p, index, false)
	v := a.cells[place{p.Block, index.K}]
	isArray := a.named(p).Array
	full := a.noRoom(1, 0)
	reasons = append(reasons, reason{isArray && full.is, full.e}, reason{!isArray && v.Kind == None, api.ErrPoison})
	if e := firstOf(reasons...); e != api.OK {
		return Sym{}, e
	}
	if isArray {
		return a.fresh(), api.OK
	}
	return v, api.OK
}

func (a *account) store(p, index, v Sym) api.Errno {
	isArray := a.named(p).Array
	reasons := append(a.unreached(p, index, true), reason{v.Kind == None, api.ErrPoison}, reason{isArray && v.Kind != Int, api.ErrType})
	e := firstOf(reasons...)
	if e == api.OK && !isArray {
		a.cells[place{p.Block, index.K}] = v
	}
	return e
}

func (a *account) free(p Sym) api.Errno {
	c := a.named(p)
	var is [ReadInner + 1]bool
	is[c.Origin] = true
	e := firstOf(append(odd(p, Ptr), reason{!c.Live, api.ErrGone}, reason{is[Read] || is[ReadInner], api.ErrWrite}, reason{is[Lent] || is[Shared] || is[Locked], api.ErrGone})...)
	if e == api.OK {
		a.chunks[p.Block].Live = false
	}
	return e
}

// over: the facts of the cells of a block, found by putting each variable's number and its fact together.
func (a *account) over(block int, facts []diff.Leq) []diff.Leq {
	var out []diff.Leq
	for _, f := range facts {
		x, y := a.cells[place{block, int64(f.X) - 1}], a.cells[place{block, int64(f.Y) - 1}]
		if x.Kind == Int {
			f.C -= x.K
		}
		if y.Kind == Int {
			f.C += y.K
		}
		// A pointer and a none have the Var 0.
		out = append(out, le(x.Var, y.Var, f.C))
	}
	return out
}

func (a *account) lock(p Sym, n int64, facts []diff.Leq) api.Errno {
	c := a.named(p)
	e := firstOf(append(odd(p, Ptr), reason{!c.Live, api.ErrGone}, reason{c.Origin != Locked, api.ErrHeld}, reason{c.Held, api.ErrHeld}, reason{n != int64(c.At), api.ErrBounds})...)
	if e != api.OK {
		return e
	}
	variables := a.many[p.Block]
	if c.At >= 0 && c.At < variables {
		variables--
	}
	if full := a.noRoom(variables, len(facts)); full.is {
		return full.e
	}
	for i := range a.many[p.Block] {
		if i != c.At {
			a.cells[place{p.Block, int64(i)}] = a.fresh()
		}
	}
	a.assume(a.over(p.Block, facts)...)
	a.chunks[p.Block].Held = true
	return api.OK
}

func (a *account) unlock(p Sym, n int64, facts []diff.Leq) api.Errno {
	c := a.named(p)
	reasons := append(odd(p, Ptr), reason{!c.Live, api.ErrGone}, reason{c.Origin != Locked, api.ErrHeld}, reason{!c.Held, api.ErrHeld}, reason{n != int64(c.At), api.ErrBounds})
	if e := firstOf(reasons...); e != api.OK {
		return e
	}
	for i, v := range a.row(p.Block) {
		reasons = append(reasons, reason{i != c.At && v.Kind != Int, api.ErrOwed})
	}
	for _, f := range a.over(p.Block, facts) {
		reasons = append(reasons, reason{!a.apart.follows(f), api.ErrOwed})
	}
	e := firstOf(reasons...)
	if e == api.OK {
		for i := range a.many[p.Block] {
			delete(a.cells, place{p.Block, int64(i)})
		}
		a.chunks[p.Block].Held = false
	}
	return e
}

// Which call is meant.
const (
	toFresh = iota
	toAssume
	toDead
	toEntails
	toAdd
	toPut
	toLoad
	toStore
	toFree
	toLockOne
	toUnlockOne
	toCopy
	calls
)

// call is one call with what is handed in, answer what it answers.
type call struct {
	which       int
	p, index, v Sym
	n           int64
	facts       []diff.Leq
	chunk       Chunk
}

type answer struct {
	value Sym
	is    bool
	e     api.Errno
}

func (c call) of(h *Heap) (out answer) {
	switch c.which {
	case toFresh:
		out.value, out.e = h.Fresh()
	case toAssume:
		out.e = h.Assume(c.facts...)
	case toDead:
		out.is = h.Dead()
	case toEntails:
		out.is = h.Entails(c.facts[0])
	case toAdd:
		out.value, out.e = h.Add(c.v, c.n)
	case toPut:
		out.value = h.Put(c.chunk)
	case toLoad:
		out.value, out.e = h.Load(c.p, c.index)
	case toStore:
		out.e = h.Store(c.p, c.index, c.v)
	case toFree:
		out.e = h.Free(c.p)
	case toLockOne:
		out.e = h.Lock(c.p, c.n, c.facts)
	case toUnlockOne:
		out.e = h.Unlock(c.p, c.n, c.facts)
	}
	return out
}

func (c call) byWords(a *account) (out answer) {
	switch c.which {
	case toFresh:
		if full := a.noRoom(1, 0); full.is {
			return answer{e: full.e}
		}
		out.value = a.fresh()
	case toAssume:
		if full := a.noRoom(0, len(c.facts)); full.is {
			return answer{e: full.e}
		}
		a.assume(c.facts...)
	case toDead:
		out.is = a.apart.refuted
	case toEntails:
		out.is = a.apart.follows(c.facts[0])
	case toAdd:
		out.value, out.e = a.add(c.v, c.n)
	case toPut:
		out.value = a.put(c.chunk)
	case toLoad:
		out.value, out.e = a.load(c.p, c.index)
	case toStore:
		out.e = a.store(c.p, c.index, c.v)
	case toFree:
		out.e = a.free(c.p)
	case toLockOne:
		out.e = a.lock(c.p, c.n, c.facts)
	case toUnlockOne:
		out.e = a.unlock(c.p, c.n, c.facts)
	}
	return out
}

// both is a heap and its account, which are asked the same.
type both struct {
	heap    *Heap
	account *account
	asked   []call
}

func newBoth() *both { return &both{heap: &Heap{Vars: 1}, account: newAccount()} }

// ask does the call with both, and wants the same of them: the answer, and the heap behind it. What is handed in is kept as it was, and spoilt behind the call.
func (b *both) ask(t *testing.T, c call) answer {
	t.Helper()
	b.asked = append(b.asked, c)
	if c.which == toCopy {
		b.heap = b.heap.Copy()
	}
	mine := c
	mine.facts, mine.chunk.Cells = slices.Clone(c.facts), slices.Clone(c.chunk.Cells)
	is, want := mine.of(b.heap), c.byWords(b.account)
	if !slices.Equal(mine.facts, c.facts) || !slices.Equal(mine.chunk.Cells, c.chunk.Cells) {
		t.Fatalf("rule 4: %+v changes what is handed in: %v, %v", c, mine.facts, mine.chunk.Cells)
	}
	for i := range mine.facts {
		mine.facts[i] = le(-77, -77, -77)
	}
	for i := range mine.chunk.Cells {
		mine.chunk.Cells[i] = num(-77)
	}
	if is != want {
		t.Fatalf("P13.1 to P13.6: the last of the calls %+v answers %+v, want %+v", b.last(), is, want)
	}
	if tell := b.account.heap(); !sameHeap(b.heap, tell) {
		t.Fatalf("P13.1 to P13.6: behind the calls %+v the heap is\n%+v, want\n%+v", b.last(), b.heap, tell)
	}
	return is
}

func (b *both) last() []call { return b.asked[max(0, len(b.asked)-7):] }

// twin: both of them once more.
func (b *both) twin() *both {
	return &both{heap: b.heap.Copy(), account: b.account.copied(), asked: slices.Clone(b.asked)}
}
