package state

import (
	"math/big"
	"slices"
	"testing"

	"lychgate/api"
	"lychgate/code"
	"lychgate/link"
	"lychgate/mem"
)

// account is a second telling of the chapter's words: no machine, but what is told of one, from which the next thing that is told is worked out.
type account struct {
	image     link.Image
	told      Told
	result    mem.Value
	hasResult bool
}

// outcome is what a step comes to; where it isn't Running, the rest of the step isn't done.
type outcome struct {
	end End
	why mem.Stuck
}

var goesOn = outcome{}

func stuckBy(why mem.Stuck) outcome {
	if why == mem.Fine {
		return goesOn
	}
	return outcome{Stuck, why}
}

// newAccount: what must be told at the beginning of the code with that number.
func newAccount(m link.Image, at int, memory *mem.Memory, args []mem.Value) *account {
	a := &account{image: m}
	a.told.Blocks, a.told.Used = memory.Blocks(), memory.Used()
	a.told.Threads = []Thread{{Frames: []Frame{a.frameOf(at, args, "")}}}
	return a
}

func (a *account) frameOf(number int, values []mem.Value, into string) Frame {
	f := Frame{Code: number, Into: into}
	values = append(slices.Clone(values), make([]mem.Value, 16)...)
	for i, name := range a.image.Codes[number].Params {
		give(&f, name, values[i])
	}
	return f
}

func give(f *Frame, name string, v mem.Value) {
	for i := range f.Vars {
		if f.Vars[i].Name == name {
			f.Vars[i].Value = v
			return
		}
	}
	f.Vars = append(f.Vars, Var{name, v})
}

// wrapped: a sum of two numbers, or a difference, taken modulo 2^64 to the number that an int64 can be.
func wrapped(a, b int64, less bool) int64 {
	x, y, all := big.NewInt(a), big.NewInt(b), new(big.Int).Lsh(big.NewInt(1), 64)
	if less {
		y.Neg(y)
	}
	x.Add(x, y).Mod(x, all)
	if !x.IsInt64() {
		x.Sub(x, all)
	}
	return x.Int64()
}

// reckon: the value of a sum or difference.
func reckon(a, b int64, less bool) (mem.Value, outcome) {
	n := wrapped(a, b, less)
	if n < -1<<40 || 1<<40 < n {
		return mem.Value{}, outcome{end: Overflow}
	}
	return mem.Value{Kind: mem.Int, N: n}, goesOn
}

// look: the value of a term.
func look(f Frame, t code.Term) (mem.Value, outcome) {
	if t.Name == "" {
		return mem.Value{Kind: mem.Int, N: t.Num}, goesOn
	}
	for _, v := range f.Vars {
		switch {
		case v.Name != t.Name || v.Value.Kind == mem.Poison:
		case t.Num == 0:
			return v.Value, goesOn
		case v.Value.Kind != mem.Int:
			return mem.Value{}, stuckBy(mem.Type)
		default:
			return reckon(v.Value.N, t.Num, false)
		}
	}
	return mem.Value{}, stuckBy(mem.Empty)
}

// lookAll: the values of terms, or what the first one that has none comes to.
func lookAll(f Frame, terms ...code.Term) ([]mem.Value, outcome) {
	var values []mem.Value
	for _, t := range terms {
		v, out := look(f, t)
		if out != goesOn {
			return nil, out
		}
		values = append(values, v)
	}
	return values, goesOn
}

// lookInts: the numbers of terms; all have a value ahead of what they are.
func lookInts(f Frame, terms ...code.Term) ([]int64, outcome) {
	values, out := lookAll(f, terms...)
	var numbers []int64
	for _, v := range values {
		if v.Kind != mem.Int {
			return nil, stuckBy(mem.Type)
		}
		numbers = append(numbers, v.N)
	}
	return numbers, out
}

// step: what must be told behind a step with that pick.
func (a *account) step(pick int) {
	if a.told.End != Running {
		return
	}
	live := liveOf(a.told)
	index := big.NewInt(int64(pick))
	if index.Sign() < 0 {
		index.Neg(index.Add(index, big.NewInt(1)))
	}
	number := live[index.Mod(index, big.NewInt(int64(len(live)))).Int64()]
	out := a.doNext(number)
	a.told.End, a.told.Why = out.end, out.why
	if out.end == Stuck {
		a.told.Thread = number
	}
}

func (a *account) frame(number int) *Frame {
	frames := a.told.Threads[number].Frames
	return &frames[len(frames)-1]
}

func (a *account) instr(number int) code.Instr {
	f := a.frame(number)
	return a.image.Codes[f.Code].List[f.At]
}

// doNext does the next instruction of a thread.
func (a *account) doNext(number int) outcome {
	f, i := a.frame(number), a.instr(number)
	switch i.Op {
	case code.Set, code.Sum, code.Less:
		return a.doReckon(f, i)
	case code.New, code.Array:
		return a.doAlloc(f, i)
	case code.Load, code.Store:
		return a.doAccess(&a.told.Threads[number], f, i)
	case code.Free, code.Lock, code.Unlock:
		return a.doBlock(f, i)
	case code.Branch:
		return doBranch(f, i)
	case code.Jump:
		f.At = i.To
		return goesOn
	case code.Call, code.Fork:
		return a.doAsk(number, f, i)
	case code.Ret:
		return a.doRet(number, f, i)
	}
	return outcome{end: Aborted}
}

func (a *account) doReckon(f *Frame, i code.Instr) outcome {
	if i.Op == code.Set {
		v, out := look(*f, i.A)
		return gets(f, i.X, v, out)
	}
	ns, out := lookInts(*f, i.A, i.B)
	if out != goesOn {
		return out
	}
	v, out := reckon(ns[0], ns[1], i.Op == code.Less)
	return gets(f, i.X, v, out)
}

// gets: the variable gets the value, and the next instruction comes, if the step goes on.
func gets(f *Frame, name string, v mem.Value, out outcome) outcome {
	if out == goesOn {
		give(f, name, v)
		f.At++
	}
	return out
}

func (a *account) doAlloc(f *Frame, i code.Instr) outcome {
	n, cell := i.A.Num, mem.Value{}
	if i.Op == code.Array {
		ns, out := lookInts(*f, i.A)
		if out != goesOn {
			return out
		}
		n, cell = ns[0], mem.Value{Kind: mem.Int}
	}
	if n < 0 || n > 256 || a.told.Used+int(n)+1 > 4096 {
		return outcome{end: Full}
	}
	b := mem.Block{Live: true, Readers: make([]int, n), Writer: make([]bool, n), Cells: slices.Repeat([]mem.Value{cell}, int(n))}
	a.told.Blocks = append(a.told.Blocks, b)
	a.told.Used += int(n) + 1
	return gets(f, i.X, mem.Value{Kind: mem.Ptr, Block: len(a.told.Blocks)}, goesOn)
}

// usable: why what a pointer names may not be used; all is asked in the order of layer 6.
func (a *account) usable(p mem.Value) mem.Stuck {
	switch {
	case p.Kind != mem.Ptr:
		return mem.Type
	case p.Block < 1 || p.Block > len(a.told.Blocks) || !a.told.Blocks[p.Block-1].Live:
		return mem.Gone
	case p.N < 0 || p.N >= int64(len(a.told.Blocks[p.Block-1].Cells)):
		return mem.Bounds
	}
	return mem.Fine
}

func (a *account) doAccess(t *Thread, f *Frame, i code.Instr) outcome {
	if t.Busy {
		return a.endOf(t, f, i)
	}
	y, out := look(*f, code.Term{Name: i.Y})
	if out != goesOn {
		return out
	}
	if y.Kind != mem.Ptr {
		return stuckBy(mem.Type)
	}
	ns, out := lookInts(*f, i.A)
	if out != goesOn {
		return out
	}
	var v mem.Value
	if i.Op == code.Store {
		if v, out = look(*f, i.B); out != goesOn {
			return out
		}
	}
	p := mem.Value{Kind: mem.Ptr, Block: y.Block, N: wrapped(y.N, ns[0], false)}
	if why := a.usable(p); why != mem.Fine {
		return stuckBy(why)
	}
	b := a.told.Blocks[p.Block-1]
	switch {
	case b.Writer[p.N] || i.Op == code.Store && b.Readers[p.N] > 0:
		return stuckBy(mem.Race)
	case i.Op == code.Store:
		b.Writer[p.N] = true
	default:
		b.Readers[p.N]++
	}
	t.Busy, t.P, t.V = true, p, v
	return goesOn
}

// endOf: the second step of a Load or Store.
func (a *account) endOf(t *Thread, f *Frame, i code.Instr) outcome {
	p, v := t.P, t.V
	if why := a.usable(p); why != mem.Fine {
		return stuckBy(why)
	}
	b := a.told.Blocks[p.Block-1]
	if i.Op == code.Store {
		if !b.Writer[p.N] {
			return stuckBy(mem.Race)
		}
		b.Writer[p.N], b.Cells[p.N] = false, kept(v)
		f.At++
	} else {
		if b.Readers[p.N] == 0 {
			return stuckBy(mem.Race)
		}
		b.Readers[p.N]--
		if b.Cells[p.N].Kind == mem.Poison {
			return stuckBy(mem.Empty)
		}
		gets(f, i.X, b.Cells[p.N], goesOn)
	}
	*t = Thread{Frames: t.Frames}
	return goesOn
}

// kept: what a cell holds of a value that is written.
func kept(v mem.Value) mem.Value {
	if v.Kind == mem.Int {
		v.Block = 0
	} else if v.Kind != mem.Ptr {
		v = mem.Value{}
	}
	return v
}

func (a *account) doBlock(f *Frame, i code.Instr) outcome {
	v, out := look(*f, code.Term{Name: i.Y})
	if out != goesOn {
		return out
	}
	if i.Op == code.Free {
		return a.doFree(f, v)
	}
	if v.Kind == mem.Ptr {
		v.N = wrapped(v.N, i.A.Num, false)
	}
	if why := a.usable(v); why != mem.Fine {
		return stuckBy(why)
	}
	b := a.told.Blocks[v.Block-1]
	held := b.Cells[v.N]
	switch {
	case b.Writer[v.N] || b.Readers[v.N] > 0:
		return stuckBy(mem.Race)
	case held.Kind == mem.Poison:
		return stuckBy(mem.Empty)
	case held.Kind != mem.Int:
		return stuckBy(mem.Type)
	case i.Op == code.Lock && held.N != 0:
		return goesOn
	}
	b.Cells[v.N].N = 0
	if i.Op == code.Lock {
		b.Cells[v.N].N = 1
	}
	f.At++
	return goesOn
}

func (a *account) doFree(f *Frame, v mem.Value) outcome {
	if why := a.usable(v); why == mem.Type || why == mem.Gone {
		return stuckBy(why)
	}
	b := &a.told.Blocks[v.Block-1]
	if v.N != 0 {
		return stuckBy(mem.Inside)
	}
	for n := range b.Cells {
		if b.Writer[n] || b.Readers[n] > 0 {
			return stuckBy(mem.Race)
		}
	}
	b.Live = false
	f.At++
	return goesOn
}

func doBranch(f *Frame, i code.Instr) outcome {
	ns, out := lookInts(*f, i.A, i.B)
	if out != goesOn {
		return out
	}
	holds := map[string][]int{"<": {-1}, "<=": {-1, 0}, "==": {0}}[i.X]
	f.At++
	if !slices.Contains(holds, big.NewInt(ns[0]).Cmp(big.NewInt(ns[1]))) {
		f.At = i.To
	}
	return goesOn
}

func (a *account) doAsk(number int, f *Frame, i code.Instr) outcome {
	values, out := lookAll(*f, i.Args...)
	if out != goesOn {
		return out
	}
	callee := slices.IndexFunc(a.image.Codes, func(c code.Code) bool { return c.Name == i.Y })
	t := &a.told.Threads[number]
	if i.Op == code.Call {
		if len(t.Frames) == 64 {
			return outcome{end: Full}
		}
		f.At++
		t.Frames = append(t.Frames, a.frameOf(callee, values, i.X))
		return goesOn
	}
	if len(a.told.Threads) == api.MaxThread {
		return outcome{end: Full}
	}
	f.At++
	a.told.Threads = append(a.told.Threads, Thread{Frames: []Frame{a.frameOf(callee, values, "")}})
	return goesOn
}

func (a *account) doRet(number int, f *Frame, i code.Instr) outcome {
	var v mem.Value
	if i.Has {
		var out outcome
		if v, out = look(*f, i.A); out != goesOn {
			return out
		}
	}
	into := f.Into
	t := &a.told.Threads[number]
	t.Frames = t.Frames[:len(t.Frames)-1]
	if len(t.Frames) > 0 && into != "" {
		give(a.frame(number), into, v)
	}
	if len(t.Frames) == 0 && number == 0 && i.Has {
		a.result, a.hasResult = v, true
	}
	if len(liveOf(a.told)) == 0 {
		return outcome{end: Done}
	}
	return goesOn
}

func sameFrame(a, b Frame) bool {
	return a.Code == b.Code && a.At == b.At && a.Into == b.Into && slices.Equal(a.Vars, b.Vars)
}

func sameThread(a, b Thread) bool {
	return a.Busy == b.Busy && a.P == b.P && a.V == b.V && slices.EqualFunc(a.Frames, b.Frames, sameFrame)
}

func sameBlock(a, b mem.Block) bool {
	return a.Live == b.Live && slices.Equal(a.Cells, b.Cells) && slices.Equal(a.Readers, b.Readers) && slices.Equal(a.Writer, b.Writer)
}

func sameTold(a, b Told) bool {
	return a.End == b.End && a.Why == b.Why && a.Thread == b.Thread && a.Used == b.Used &&
		slices.EqualFunc(a.Threads, b.Threads, sameThread) && slices.EqualFunc(a.Blocks, b.Blocks, sameBlock)
}

// both is a machine and its account, which do the same steps.
type both struct {
	x       *Machine
	account *account
	before  Told
}

// step does a step of both, and wants all that they tell to be the same.
func (b *both) step(t *testing.T, pick int) {
	t.Helper()
	b.x.Step(pick)
	b.account.step(pick)
	b.wantSame(t, pick)
}

func (b *both) wantSame(t *testing.T, pick int) {
	t.Helper()
	is, want := b.x.Tell(), b.account.told
	if !sameTold(is, want) || b.x.End() != want.End || !slices.Equal(b.x.Live(), liveOf(want)) {
		t.Fatalf("P9.1 to P9.3: codes %v, behind the pick %d of\n     %s:\n got %s, %d cells count, End %d, Live %v\nwant %s, %d cells count",
			b.account.image.Codes, pick, textOf(b.before), textOf(is), is.Used, b.x.End(), b.x.Live(), textOf(want), want.Used)
	}
	if v, ok := b.x.Result(); v != b.account.result || ok != b.account.hasResult {
		t.Fatalf("P9.3: codes %v, behind the pick %d of\n     %s:\nthe result is %v, %v; want %v, %v",
			b.account.image.Codes, pick, textOf(b.before), v, ok, b.account.result, b.account.hasResult)
	}
	b.before = is
}
