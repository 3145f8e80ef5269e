package mem

import (
	"math"
	"math/rand"
	"slices"
	"testing"

	"lychgate/api"
)

// place is a cell of a block.
type place struct {
	block int
	n     int64
}

// account is a second telling of the chapter's words: no cells, but what was done with places.
type account struct {
	sizes   []int64
	freed   map[int]bool
	reads   map[place]int
	writes  map[place]bool
	written map[place]Value
}

func newAccount() *account {
	return &account{freed: map[int]bool{}, reads: map[place]int{}, writes: map[place]bool{}, written: map[place]Value{}}
}

func (a *account) used() int {
	sum := len(a.sizes)
	for _, n := range a.sizes {
		sum += int(n)
	}
	return sum
}

func (a *account) blocks() []Block {
	var out []Block
	for i, size := range a.sizes {
		b := Block{Live: !a.freed[i+1]}
		for n := range size {
			where := place{i + 1, n}
			b.Cells = append(b.Cells, a.written[where])
			b.Readers = append(b.Readers, a.reads[where])
			b.Writer = append(b.Writer, a.writes[where])
		}
		out = append(out, b)
	}
	return out
}

func (a *account) reason(p Value) Stuck {
	switch {
	case p.Kind != Ptr:
		return Type
	case p.Block <= 0 || p.Block > len(a.sizes) || a.freed[p.Block]:
		return Gone
	case p.N < 0 || p.N > a.sizes[p.Block-1]-1:
		return Bounds
	}
	return Fine
}

// Which call of a memory is meant.
const (
	alloc = iota
	free
	begin
	end
	lock
	unlock
	calls
)

// call is one call with what is handed in, answer what it answers.
type call struct {
	which int
	n     int64
	p     Value
	write bool
	v     Value
}

type answer struct {
	value Value
	ok    bool
	why   Stuck
}

func (c call) of(m *Memory) answer {
	var out answer
	switch c.which {
	case alloc:
		out.value, out.ok = m.Alloc(c.n)
	case free:
		out.why = m.Free(c.p)
	case begin:
		out.why = m.Begin(c.p, c.write)
	case end:
		out.value, out.why = m.End(c.p, c.write, c.v)
	case lock:
		out.ok, out.why = m.Lock(c.p)
	case unlock:
		out.why = m.Unlock(c.p)
	}
	return out
}

func (c call) byWords(a *account) answer {
	switch c.which {
	case alloc:
		return a.alloc(c.n)
	case free:
		return a.free(c.p)
	}
	if why := a.reason(c.p); why != Fine {
		return answer{why: why}
	}
	where := place{c.p.Block, c.p.N}
	switch {
	case c.which == begin && c.write:
		return a.beginWrite(where)
	case c.which == begin:
		return a.beginRead(where)
	case c.which == end && c.write:
		return a.endWrite(where, c.v)
	case c.which == end:
		return a.endRead(where)
	}
	return a.turn(where, c.which == lock)
}

func (a *account) alloc(n int64) answer {
	if n < 0 || n > 256 || n+1 > int64(4096-a.used()) {
		return answer{}
	}
	a.sizes = append(a.sizes, n)
	return answer{value: at(len(a.sizes), 0), ok: true}
}

func (a *account) free(p Value) answer {
	if why := a.reason(p); why == Type || why == Gone {
		return answer{why: why}
	}
	if p.N != 0 {
		return answer{why: Inside}
	}
	for n := range a.sizes[p.Block-1] {
		if where := (place{p.Block, n}); a.writes[where] || a.reads[where] != 0 {
			return answer{why: Race}
		}
	}
	a.freed[p.Block] = true
	return answer{}
}

func (a *account) beginRead(where place) answer {
	if a.writes[where] {
		return answer{why: Race}
	}
	a.reads[where]++
	return answer{}
}

func (a *account) beginWrite(where place) answer {
	if a.writes[where] || a.reads[where] != 0 {
		return answer{why: Race}
	}
	a.writes[where] = true
	return answer{}
}

func (a *account) endRead(where place) answer {
	if a.reads[where] == 0 {
		return answer{why: Race}
	}
	a.reads[where]--
	if a.written[where] == (Value{}) {
		return answer{why: Empty}
	}
	return answer{value: a.written[where]}
}

func (a *account) endWrite(where place, v Value) answer {
	if !a.writes[where] {
		return answer{why: Race}
	}
	a.writes[where] = false
	if v.Kind != Ptr {
		v.Block = 0
	}
	if v.Kind != Ptr && v.Kind != Int {
		v = Value{}
	}
	a.written[where] = v
	return answer{}
}

// turn: Lock, or Unlock.
func (a *account) turn(where place, closes bool) answer {
	held := a.written[where]
	switch {
	case a.writes[where] || a.reads[where] != 0:
		return answer{why: Race}
	case held == Value{}:
		return answer{why: Empty}
	case held.Kind != Int:
		return answer{why: Type}
	case !closes:
		a.written[where] = num(0)
		return answer{}
	case held != num(0):
		return answer{}
	}
	a.written[where] = num(1)
	return answer{ok: true}
}

// both is a memory and its account, which are asked the same.
type both struct {
	memory  *Memory
	account *account
	asked   []call
}

func newBoth() *both { return &both{memory: New(), account: newAccount()} }

// ask does the call with both, and wants the same of them: the answer, and all that can be told behind it.
func (b *both) ask(t *testing.T, c call) answer {
	t.Helper()
	b.asked = append(b.asked, c)
	is, want := c.of(b.memory), c.byWords(b.account)
	if is != want {
		t.Fatalf("P6.1 to P6.5: the last of the calls %v answers %v, want %v", b.asked[max(0, len(b.asked)-9):], is, want)
	}
	b.wantSame(t)
	return is
}

func (b *both) wantSame(t *testing.T) {
	t.Helper()
	if !slices.EqualFunc(b.memory.Blocks(), b.account.blocks(), sameBlock) || b.memory.Used() != b.account.used() {
		t.Fatalf("P6.6: behind the calls %v: %v, %d cells count; want %v, %d", b.asked[max(0, len(b.asked)-9):], b.memory.Blocks(), b.memory.Used(), b.account.blocks(), b.account.used())
	}
}

// TestAllShort: all short runs of calls on small blocks.
func TestAllShort(t *testing.T) {
	p := at(1, 0)
	some := []call{
		{which: alloc, n: 0}, {which: alloc, n: 2},
		{which: free, p: p}, {which: free, p: at(1, 1)}, {which: free, p: at(2, 0)},
		{which: begin, p: p}, {which: begin, p: p, write: true}, {which: begin, p: at(1, 1), write: true},
		{which: end, p: p}, {which: end, p: p, write: true}, {which: end, p: p, write: true, v: num(0)},
		{which: end, p: p, write: true, v: num(1)}, {which: end, p: p, write: true, v: p},
		{which: lock, p: p}, {which: unlock, p: p}, {which: lock, p: at(2, 1)},
	}
	for _, first := range []Value{{}, num(0), num(2), at(2, 0)} {
		ahead := []call{{which: alloc, n: 1}, {which: begin, p: p, write: true}, {which: end, p: p, write: true, v: first}}
		goThrough(t, ahead, some, 4)
	}
}

// goThrough asks all runs of so many of these calls, each behind those ahead.
func goThrough(t *testing.T, ahead, some []call, many int) {
	t.Helper()
	if many > 0 {
		for _, c := range some {
			goThrough(t, append(slices.Clip(ahead), c), some, many-1)
		}
		return
	}
	b := newBoth()
	for _, c := range ahead {
		b.ask(t, c)
	}
}

func pick[T any](r *rand.Rand, of ...T) T { return of[r.Intn(len(of))] }

// drawnValue: most often a pointer to one of a few cells, at times something odd.
func drawnValue(r *rand.Rand) Value {
	v := at(1+r.Intn(3), int64(r.Intn(3)))
	switch r.Intn(12) {
	case 0:
		v.N = pick[int64](r, -1, 3, 255, 256, math.MinInt64, math.MaxInt64)
	case 1:
		v.Block = pick(r, 0, -1, 6, 40, math.MinInt, math.MaxInt)
	case 2:
		v.Kind = pick(r, Poison, Int, Ptr+1, -1, math.MinInt, math.MaxInt)
	}
	return v
}

func drawnCall(r *rand.Rand) call {
	c := call{which: pick(r, begin, end, begin, end, lock, unlock), p: drawnValue(r), write: r.Intn(2) == 0}
	switch r.Intn(50) {
	case 0:
		c.which, c.n = alloc, pick[int64](r, 0, 1, 2, 3, 4, 255, 256, 257, -1, math.MinInt64, math.MaxInt64)
	case 1:
		c.which = free
		c.p.N = pick(r, 0, 0, c.p.N)
	}
	c.v = pick(r, num(0), num(0), num(1), num(r.Int63()), Value{}, Value{Kind: Int, Block: 2}, drawnValue(r))
	return c
}

// TestDrawn: long runs of calls, drawn anew the same way each time, on two memories in turns; every call comes to each of its reasons.
func TestDrawn(t *testing.T) {
	r := rand.New(rand.NewSource(6))
	seen := map[int]map[answer]int{}
	for which := range calls {
		seen[which] = map[answer]int{}
	}
	for range 60 {
		two := []*both{newBoth(), newBoth()}
		for _, b := range two {
			b.ask(t, call{which: alloc, n: 3})
			b.ask(t, call{which: alloc, n: 2})
		}
		for range 600 {
			c := drawnCall(r)
			is := pick(r, two...).ask(t, c)
			is.value = Value{Kind: is.value.Kind}
			seen[c.which][is]++
		}
		two[0].wantSame(t)
		two[1].wantSame(t)
	}
	none := []Stuck{Type, Gone, Bounds, Race}
	want := map[int][]Stuck{free: {Fine, Type, Gone, Inside, Race}, begin: append(none, Fine), end: append(none, Fine, Empty), lock: append(none, Fine, Empty), unlock: append(none, Fine, Empty)}
	for which, reasons := range want {
		for _, why := range reasons {
			if seen[which][answer{why: why}] == 0 {
				t.Errorf("the call %d never came to the reason %d: too few to tell", which, why)
			}
		}
	}
	if seen[lock][answer{ok: true}] < 10 || seen[alloc][answer{}] < 10 || seen[end][answer{value: num(0)}] < 10 || seen[end][answer{value: at(0, 0)}] < 10 {
		t.Errorf("%v: too few of some to tell", seen)
	}
}

// TestDrawnFull: blocks of drawn sizes, until there is no room for one more.
func TestDrawnFull(t *testing.T) {
	r := rand.New(rand.NewSource(61))
	for range 6 {
		b := newBoth()
		most := pick(r, 40, 100, int64(api.MaxBlock))
		for b.account.used() < api.MaxCells {
			n := r.Int63n(most + 1)
			if room := int64(api.MaxCells - b.account.used()); room < most {
				n = r.Int63n(room + 2)
			}
			b.ask(t, call{which: alloc, n: n})
			b.ask(t, call{which: free, p: at(1+r.Intn(len(b.account.sizes)+1), 0)})
		}
		b.ask(t, call{which: alloc})
	}
}

// callOf: a call read from five bytes.
func callOf(data []byte) call {
	odd := []int64{-1, 256, 257, math.MinInt64, math.MaxInt64}
	stretched := func(b byte) int64 {
		if int(b) < 256-len(odd) {
			return int64(b)
		}
		return odd[255-b]
	}
	return call{
		which: int(data[0]) % calls,
		n:     stretched(data[1]),
		p:     Value{Kind: Kind(data[0]/64) - 1, N: stretched(data[1]), Block: int(stretched(data[2]))},
		write: data[0]/calls%2 == 1,
		v:     Value{Kind: Kind(data[3]) - 1, N: stretched(data[4]), Block: int(data[3] / 8)},
	}
}

func FuzzMemory(f *testing.F) {
	f.Add([]byte{0, 2, 0, 0, 0, 200, 0, 1, 0, 0, 207, 0, 1, 2, 5, 201, 0, 1, 0, 0})
	f.Add([]byte{0, 1, 0, 0, 0, 0, 255, 0, 0, 0, 193, 0, 1, 0, 0, 194, 0, 1, 0, 0})
	f.Fuzz(func(t *testing.T, data []byte) {
		b := newBoth()
		for ; len(data) >= 5; data = data[5:] {
			b.ask(t, callOf(data))
		}
	})
}
