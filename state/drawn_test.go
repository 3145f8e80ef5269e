package state

import (
	"math"
	"math/rand"
	"slices"
	"strconv"
	"strings"
	"testing"

	"lychgate/api"
	"lychgate/code"
	"lychgate/link"
	"lychgate/mem"
	"lychgate/syntax"
)

// drawer writes texts of functions; what it draws is the same at each run. Most often i, j and k are numbers, p, q and r pointers, and what is asked of them goes well.
type drawer struct {
	*rand.Rand
	params map[string][]string // of all functions
}

func (d *drawer) of(choices ...string) string { return choices[d.Intn(len(choices))] }

func (d *drawer) rarely() bool { return d.Intn(40) == 0 }

func (d *drawer) anyName() string { return d.of("i", "j", "k", "p", "q", "r", "none") }

func (d *drawer) int() string {
	if d.rarely() {
		return d.anyName()
	}
	return d.of("i", "j", "k")
}

func (d *drawer) pointer() string {
	if d.rarely() {
		return d.anyName()
	}
	return d.of("p", "p", "q", "r")
}

func (d *drawer) number() string {
	if d.Intn(12) == 0 {
		return d.of("1099511627776", "-1099511627776", "1099511627775")
	}
	return strconv.Itoa(d.Intn(4) - 1)
}

// term: most often one whose value is a number.
func (d *drawer) term() string {
	if d.rarely() {
		return d.pointer() + d.of("", " + 1", " - 1", " + 0")
	}
	return d.of(d.number(), d.int(), d.int()+" + 1", d.int()+" - 1", d.int()+" + 0")
}

func (d *drawer) cell() string {
	if d.rarely() {
		return "[" + d.term() + "]"
	}
	return "[" + d.of("0", "0", "1", "i") + "]"
}

// args: those that a function's parameters ask for.
func (d *drawer) args(name string) string {
	var args []string
	for _, param := range d.params[name] {
		arg := d.term()
		if strings.Contains("p q r", param) {
			arg = d.pointer()
		}
		args = append(args, arg)
	}
	return name + "(" + strings.Join(args, ", ") + ");"
}

func (d *drawer) statement(depth int) string {
	switch kind := d.Intn(20); {
	case kind < 3:
		return d.of("i", "j", "k") + " = " + d.of(d.term(), d.int()+" + "+d.int(), d.int()+" - "+d.int()) + ";"
	case kind < 4:
		return d.of("p", "q", "r") + " = " + d.of("new 2", "array "+d.int(), "new "+d.of("0", "1", "2", "256", "257"), d.pointer(), "&p", "&mut q") + ";"
	case kind < 7:
		return d.of("i", "j", "k", "k", d.anyName()) + " = " + d.pointer() + d.cell() + ";"
	case kind < 10:
		return d.pointer() + d.cell() + " = " + d.of(d.term(), d.term(), d.pointer()) + ";"
	case kind < 12:
		return d.of("lock ", "unlock ") + d.pointer() + d.of("[0];", "[0];", "[1];")
	case kind < 14:
		name := d.of("f", "g", "h")
		return d.of("", "i = ", "p = ", d.anyName()+" = ") + d.args(name)
	case kind < 15:
		return "fork " + d.args(d.of("v", "w"))
	case kind < 18 && depth > 0:
		head := d.of("if ", "if ", "while ") + d.term() + d.of(" < ", " <= ", " == ") + d.term()
		text := head + " { " + d.body(depth-1, 3) + "}"
		if strings.HasPrefix(head, "if") && d.Intn(2) == 0 {
			text += " else { " + d.body(depth-1, 3) + "}"
		}
		return text
	case kind == 18:
		return d.of("free "+d.pointer()+";", "free "+d.pointer()+";", "return;", "return "+d.term()+";", "return "+d.pointer()+";")
	case d.rarely():
		return "abort;"
	}
	return d.of("i = i + 1;", "j = 0;", "k = i - j;", "p[0] = 0;", "lock p[0];")
}

func (d *drawer) body(depth, most int) string {
	text := ""
	for range d.Intn(most + 1) {
		text += d.statement(depth) + " "
	}
	return text
}

// ahead: what most bodies begin with, so that the variables hold something; what is handed in stays.
func (d *drawer) ahead(params []string) string {
	text := ""
	for _, set := range []string{
		"i = 0;", "j = " + d.of("1", "2", "2", "1099511627776", "-1099511627775") + ";", "k = 2;",
		"p = array k;", "q = " + d.of("array k;", "p;"), "r = " + d.of("new 2;", "array k;", "p;", "q;"),
	} {
		if d.Intn(30) > 0 && !slices.Contains(params, set[:1]) {
			text += set + " "
		}
	}
	return text
}

func (d *drawer) fn(name string) string {
	params := d.params[name]
	text := "fn " + name + "("
	for i, param := range params {
		if i > 0 {
			text += ", "
		}
		text += param + ": int"
	}
	return text + ") { " + d.ahead(params) + d.body(2, 8) + "}\n"
}

// draw: the texts of libraries and of a client.
func draw(r *rand.Rand) (libs, client string) {
	d := &drawer{Rand: r, params: map[string][]string{}}
	for _, name := range []string{"f", "g", "h", "v", "w"} {
		for range d.Intn(4) {
			d.params[name] = append(d.params[name], d.of("i", "j", "p", "p", "q"))
		}
	}
	return d.fn("f") + d.fn("g") + d.fn("h"), d.fn("v") + d.fn("main") + d.fn("w")
}

// drawnValue: a value of any Kind, also of such as are none, with fields that it may not need.
func drawnValue(r *rand.Rand) mem.Value {
	v := num(int64(r.Intn(3)))
	switch r.Intn(8) {
	case 0, 1, 2, 3:
		v = ptr(1+r.Intn(3), int64(r.Intn(5)/4))
	case 4:
		v.N = []int64{math.MaxInt64, math.MinInt64, api.MaxNum, -api.MaxNum}[r.Intn(4)]
	case 5:
		v = mem.Value{Kind: mem.Kind(r.Intn(6) - 2), N: r.Int63n(3) - 1, Block: r.Intn(5) - 1}
	}
	return v
}

// drawnMemory: a memory that holds some, and in which reads and writes may have begun.
func drawnMemory(r *rand.Rand) *mem.Memory {
	m := someMemory()
	if r.Intn(2) == 0 {
		m.Begin(ptr(1, int64(r.Intn(3))), r.Intn(2) == 0)
		m.Begin(ptr(3, 0), r.Intn(2) == 0)
	}
	for r.Intn(12) == 0 && m.Used() < api.MaxCells-100 {
		for m.Used() < api.MaxCells-400 {
			m.Alloc(200)
		}
	}
	return m
}

// bothOf: a machine with its account, of main, or of a function that is called with drawn arguments.
func bothOf(r *rand.Rand, m link.Image) *both {
	if r.Intn(2) > 0 {
		return &both{x: New(m), account: newAccount(m, m.Main, mem.New(), nil)}
	}
	var args []mem.Value
	for range r.Intn(5) {
		args = append(args, drawnValue(r))
	}
	at := r.Intn(len(m.Codes))
	memory := drawnMemory(r)
	account := newAccount(m, at, memory, args)
	return &both{x: Call(m, at, memory, args...), account: account}
}

// pick: most often a small one; at times the greatest or least.
func pick(r *rand.Rand) int {
	switch r.Intn(30) {
	case 0:
		return math.MinInt + r.Intn(4)
	case 1:
		return math.MaxInt - r.Intn(4)
	}
	return r.Intn(12) - 6
}

// TestDrawn: steps of drawn texts under drawn picks, each against the account.
func TestDrawn(t *testing.T) {
	seen := map[code.Op]map[outcome]int{}
	for op := range code.Abort + 1 {
		seen[op] = map[outcome]int{}
	}
	for seed := range int64(8000) {
		r := rand.New(rand.NewSource(seed))
		libs, client := draw(r)
		b := bothOf(r, mustLink(t, libs, client))
		b.wantSame(t, 0)
		for range 300 {
			if b.account.told.End != Running {
				break
			}
			countStep(t, b, pick(r), seen)
		}
		b.step(t, pick(r))
	}
	wantSeen(t, seen)
}

// countStep does a step, and counts to what its instruction comes.
func countStep(t *testing.T, b *both, pick int, seen map[code.Op]map[outcome]int) {
	t.Helper()
	live := liveOf(b.account.told)
	rest := pick % len(live)
	if pick < 0 {
		rest = (-1 - pick) % len(live)
	}
	op := b.account.instr(live[rest]).Op
	b.step(t, pick)
	seen[op][outcome{b.account.told.End, b.account.told.Why}]++
}

// wantSeen: each instruction must have come to each end and reason that it can come to.
func wantSeen(t *testing.T, seen map[code.Op]map[outcome]int) {
	t.Helper()
	values := []mem.Stuck{mem.Type, mem.Empty}
	cells := append(values, mem.Gone, mem.Bounds, mem.Race)
	reasons := map[code.Op][]mem.Stuck{
		code.Set: values, code.Sum: values, code.Less: values, code.Array: values, code.Branch: values, code.Call: values, code.Ret: {mem.Empty},
		code.Load: cells, code.Store: cells, code.Lock: cells, code.Unlock: cells, code.Free: {mem.Type, mem.Empty, mem.Gone, mem.Inside, mem.Race},
	}
	ends := map[code.Op][]End{
		code.Set: {Overflow}, code.Sum: {Overflow}, code.Less: {Overflow}, code.New: {Full}, code.Array: {Full},
		code.Branch: {Overflow}, code.Call: {Overflow, Full}, code.Ret: {Done}, code.Abort: {Aborted},
	}
	for op := range code.Abort + 1 {
		if op != code.Abort && seen[op][goesOn] < 50 {
			t.Errorf("the op %d goes on only %d times: not enough to tell", op, seen[op][goesOn])
		}
		for _, why := range reasons[op] {
			if seen[op][stuckBy(why)] == 0 {
				t.Errorf("the op %d is never stuck by %s: not enough to tell", op, whyNames[why])
			}
		}
		for _, end := range ends[op] {
			if seen[op][outcome{end: end}] == 0 {
				t.Errorf("the op %d never comes to the end %s: not enough to tell", op, endNames[end])
			}
		}
	}
}

func FuzzMachine(f *testing.F) {
	f.Add("fn f(p: &t) { p[0] = 1; x = p[0]; free p; }", "fn w(p: int) { f(p); } fn main() { p = new 1; fork w(p); f(p); }", []byte{0, 1, 255})
	f.Add("fn f(p: &t) -> int { lock p[0]; x = p[1]; unlock p[0]; return x; }", "fn main() { n = 2; p = array n; while n < 9 { n = n + 1; x = f(p); } }", []byte{0})
	f.Add("", "fn w(x: int) { y = x + x; fork w(y); abort; } fn main() { if 1 < 2 { fork w(3); } else { return 1; } }", []byte{3, 128})
	f.Fuzz(func(t *testing.T, libs, client string, picks []byte) {
		a, _, e := syntax.Parse(libs)
		b, _, other := syntax.Parse(client)
		m, _, _, unlinked := link.Link(a, b)
		if e != api.OK || other != api.OK || unlinked != api.OK || len(picks) == 0 {
			return
		}
		two := &both{x: New(m), account: newAccount(m, m.Main, mem.New(), nil)}
		for i := range min(400, 20*len(picks)) {
			two.step(t, int(int8(picks[i%len(picks)])))
		}
	})
}
