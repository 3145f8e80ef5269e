package sched

import (
	"math"
	"math/rand"
	"slices"
	"strings"
	"testing"

	"lychgate/api"
	"lychgate/code"
	"lychgate/link"
	"lychgate/mem"
	"lychgate/state"
	"lychgate/syntax"
)

// account is a second telling of the chapter's words: two trees, by which a place is told, and the machine's calls, one behind the other.
type account struct {
	libs, client syntax.Node
	image        link.Image
}

func newAccount(libs, client string) (account, bool) {
	a, _, e := syntax.Parse(libs)
	b, _, other := syntax.Parse(client)
	m, _, _, unlinked := link.Link(a, b)
	return account{a, b, m}, e == api.OK && other == api.OK && unlinked == api.OK
}

// fnOf: the function of the image's code with that number, as the two trees have it, and whether the client's has it.
func (a account) fnOf(number int) (syntax.Node, bool) {
	for _, fn := range slices.Concat(a.libs.Kids, a.client.Kids) {
		if fn.Kind == syntax.Fn && fn.Text == a.image.Codes[number].Name {
			inClient := slices.ContainsFunc(a.client.Kids, func(n syntax.Node) bool { return n.Kind == syntax.Fn && n.Text == fn.Text })
			return fn, inClient
		}
	}
	panic("the image has a function that the trees haven't")
}

// outcomes: what a run of no steps comes to, of one step, of two, and so on up to most.
func (a account) outcomes(script []int, most int) []Outcome {
	x := state.New(a.image)
	all := []Outcome{a.outcome(x, 0)}
	for i := range most {
		last := all[i]
		if last.End != state.Running {
			all = append(all, last)
			continue
		}
		pick := 0
		if len(script) > 0 {
			pick = script[i%len(script)]
		}
		x.Step(pick)
		all = append(all, a.outcome(x, i+1))
	}
	return all
}

func (a account) outcome(x *state.Machine, steps int) Outcome {
	told := x.Tell()
	var o Outcome
	o.End, o.Steps, o.Used = x.End(), steps, len(told.Blocks)
	for _, b := range told.Blocks {
		o.Used += len(b.Cells)
	}
	if o.End != state.Stuck {
		return o
	}
	var last state.Frame
	for _, f := range told.Threads[told.Thread].Frames {
		last = f
	}
	fn, inClient := a.fnOf(last.Code)
	o.Why, o.At, o.Client = told.Why, code.Lower(fn).List[last.At].At, inClient
	return o
}

// search: the script with the least number, of the first most, under which the image gets stuck.
func (a account) search(n, most int) ([]int, bool) {
	n = slices.Sorted(slices.Values([]int{0, n, 64}))[1]
	for number := 0; number < most && number < 4096 && (n > 20 || number < 1<<n); number++ {
		script := make([]int, n)
		for i := range script {
			script[n-1-i] = number >> i & 1
		}
		outcomes := a.outcomes(script, n)
		if outcomes[n].End == state.Stuck {
			return script, true
		}
	}
	return nil, false
}

// wantSame holds runs of up to most steps to the account, and that one of more steps goes on where the shorter one was.
func (a account) wantSame(t *testing.T, script []int, most int) Outcome {
	t.Helper()
	outcomes := a.outcomes(script, most)
	for n, want := range outcomes {
		wantRun(t, a.image, script, n, want)
	}
	return outcomes[most]
}

func (a account) wantSameSearch(t *testing.T, n, most int) bool {
	t.Helper()
	want, ok := a.search(n, most)
	if ok {
		wantFound(t, a.image, n, most, want)
	} else {
		wantNone(t, a.image, n, most)
	}
	return ok
}

// statements are what drawn functions are made of; p is a pointer to two cells, i a number.
func statements() []string {
	return []string{
		"i = i + 1;", "i = i + 1;", "i = p[0];", "i = p[0];", "p[0] = i;", "p[0] = i;", "p[1] = 0;", "i = p[1]; p[1] = i + 1;",
		"lock p[1];", "lock p[0]; i = p[1]; p[1] = i; unlock p[0];", "unlock p[1];", "q = new 2;", "q = array i;", "free q;", "free p;",
		"while i < 3 { i = i + 1; }", "if i <= 1 { i = p[0]; } else { p[0] = 5; }", "i = i + i;", "i = 1099511627776;",
		"f(p, i);", "g(p);", "i = g(p);", "h(p);", "fork w(p);", "fork w(p);", "fork v(p, i);", "fork v(p, i);",
		"i = none;", "i = p[3];", "i = p - i;", "p = i;", "return i;", "return none;", "abort;", "q = new 257;",
		"while 0 < 1 { }", "while 0 < 1 { q = new 256; }", "while 0 < 1 { fork w(p); }",
	}
}

func drawBody(r *rand.Rand) string {
	all := statements()
	text := ""
	for range 1 + r.Intn(4) {
		text += all[r.Intn(len(all))] + " "
	}
	return text
}

// draw: the texts of libraries and of a client.
func draw(r *rand.Rand) (libs, client string) {
	libs = "fn f(p: &t, i: int) { " + drawBody(r) + "} fn g(p: &t) -> int { i = 1; " + drawBody(r) + "return i; } fn h(p: &t) { i = 2; " + drawBody(r) + "}"
	client = "fn w(p: int) { i = 0; " + drawBody(r) + "} fn main() { i = 2; p = array i; " + drawBody(r) + drawBody(r) + "} fn v(p: int, i: int) { " + drawBody(r) + "}"
	return libs, client
}

// drawScript: most picks are small, some the greatest and the least.
func drawScript(r *rand.Rand) []int {
	script := make([]int, r.Intn(12))
	for i := range script {
		script[i] = r.Intn(9) - 4
		switch r.Intn(30) {
		case 0:
			script[i] = math.MinInt + r.Intn(4)
		case 1:
			script[i] = math.MaxInt - r.Intn(4)
		}
	}
	return script
}

// TestDrawn: runs of drawn texts under drawn scripts, each against the account.
func TestDrawn(t *testing.T) {
	type came struct {
		end    state.End
		why    mem.Stuck
		client bool
	}
	seen := map[came]int{}
	for seed := range int64(3000) {
		r := rand.New(rand.NewSource(seed))
		libs, client := draw(r)
		a, ok := newAccount(libs, client)
		if !ok {
			t.Fatalf("%q and %q aren't linked", libs, client)
		}
		o := a.wantSame(t, drawScript(r), 60)
		seen[came{o.End, o.Why, o.Client}]++
		if t.Failed() {
			t.Fatalf("the texts are %q and %q", libs, client)
		}
	}
	wanted := []came{{end: state.Running}, {end: state.Done}, {end: state.Aborted}, {end: state.Overflow}, {end: state.Full}}
	// No text can free what is inside of a block.
	for _, why := range []mem.Stuck{mem.Type, mem.Gone, mem.Bounds, mem.Empty, mem.Race} {
		wanted = append(wanted, came{state.Stuck, why, false}, came{state.Stuck, why, true})
	}
	for _, c := range wanted {
		if seen[c] < 5 {
			t.Errorf("%+v is come to only %d times: not enough to tell", c, seen[c])
		}
	}
}

// TestDrawnSearch: searches in drawn texts, each against the account.
func TestDrawnSearch(t *testing.T) {
	found, later := 0, 0
	for seed := range int64(1500) {
		r := rand.New(rand.NewSource(seed))
		libs, client := draw(r)
		a, _ := newAccount(libs, client)
		for range 4 {
			n, most := r.Intn(16)-1, r.Intn(70)-1
			if !a.wantSameSearch(t, n, most) {
				continue
			}
			found++
			if script, _ := Search(a.image, n, most); slices.Contains(script, 1) {
				later++
			}
		}
		if t.Failed() {
			t.Fatalf("the texts are %q and %q", libs, client)
		}
	}
	if found < 500 || later < 50 {
		t.Errorf("%d scripts were found, %d behind the first one: not enough to tell", found, later)
	}
}

// TestLocked: what locks ahead of each use is never stuck.
func TestLocked(t *testing.T) {
	libs := "fn inc(p: &t) { lock p[0]; x = p[1]; p[1] = x + 1; unlock p[0]; }"
	m := mustLink(t, libs, "fn main() { n = 2; p = array n; fork w(p); fork w(p); inc(p); } fn w(p: int) { inc(p); inc(p); }")
	r := rand.New(rand.NewSource(1))
	for range 2000 {
		script := make([]int, 500)
		for i := range script {
			script[i] = r.Int() - r.Int()
		}
		if o := Run(m, script, 500); o.End != state.Done || o.Used != 3 {
			t.Fatalf("P10.1: under %v %+v", script, o)
		}
	}
	wantNone(t, m, 16, 4096)
	wantNone(t, m, 64, 4096)
	// Without its lock it is stuck by what it holds then, under the first script that has both at the same cell.
	open := mustLink(t, strings.ReplaceAll(strings.ReplaceAll(libs, "unlock p[0];", ""), "lock p[0];", ""), "fn main() { n = 2; p = array n; fork w(p); inc(p); } fn w(p: int) { inc(p); }")
	script, ok := Search(open, 12, 4096)
	if o := Run(open, script, 12); !ok || o.End != state.Stuck || o.Why != mem.Race || o.Client {
		t.Errorf("P10.2: under %v, %v %+v", script, ok, o)
	}
}

// oddImage: an image as no Link gives it.
func oddImage(r *rand.Rand) link.Image {
	odd := func() int { return []int{0, 1, 2, -1, 3, math.MinInt, math.MaxInt}[r.Intn(7)] }
	name := func() string { return []string{"", "f", "main", "x", "y"}[r.Intn(5)] }
	term := func() code.Term { return code.Term{Name: name(), Num: int64(odd())} }
	m := link.Image{Libs: odd(), Main: r.Intn(3)}
	for range 1 + r.Intn(3) {
		c := code.Code{Name: name(), Params: []string{name(), name()}[:r.Intn(3)]}
		for range r.Intn(6) {
			i := code.Instr{Op: code.Op(r.Intn(18) - 1), At: odd(), X: name(), Y: name(), A: term(), B: term(), To: odd(), Has: r.Intn(2) == 0}
			i.Args = []code.Term{term(), term()}[:r.Intn(3)]
			c.List = append(c.List, i)
		}
		m.Codes = append(m.Codes, c)
	}
	return m
}

// TestOddImages: also of images by hand, which are no arguments, every call ends, and none panics.
func TestOddImages(t *testing.T) {
	for seed := range int64(20000) {
		r := rand.New(rand.NewSource(seed))
		m := oddImage(r)
		Run(m, drawScript(r), 100)
		Search(m, 6, 6)
	}
}

func FuzzRun(f *testing.F) {
	f.Add("fn f(p: &t) { p[0] = 1; x = p[0]; free p; }", "fn w(p: int) { f(p); } fn main() { p = new 1; fork w(p); f(p); }", []byte{0, 1, 255}, 9)
	f.Add("fn f(p: &t) -> int { lock p[0]; x = p[1]; unlock p[0]; return x; }", "fn main() { n = 2; p = array n; while n < 9 { n = n + 1; x = f(p); } }", []byte{}, 12)
	f.Add("", "fn w(x: int) { y = x + x; fork w(y); abort; } fn main() { if 1 < 2 { fork w(3); } else { return 1; } }", []byte{3, 128}, 70)
	f.Fuzz(func(t *testing.T, libs, client string, picks []byte, n int) {
		a, ok := newAccount(libs, client)
		if !ok {
			return
		}
		script := make([]int, len(picks))
		for i, pick := range picks {
			script[i] = int(int8(pick))
		}
		a.wantSame(t, script, 100)
		a.wantSameSearch(t, n, 30)
	})
}
