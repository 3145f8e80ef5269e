package sched

import (
	"math"
	"reflect"
	"slices"
	"strings"
	"sync"
	"testing"

	"lychgate/api"
	"lychgate/link"
	"lychgate/mem"
	"lychgate/state"
	"lychgate/syntax"
)

func mustParse(t *testing.T, text string) syntax.Node {
	t.Helper()
	tree, at, e := syntax.Parse(text)
	if e != api.OK {
		t.Fatalf("%q: error %d at %d", text, e, at)
	}
	return tree
}

func linkTrees(t *testing.T, libs, client syntax.Node) link.Image {
	t.Helper()
	m, at, isClient, e := link.Link(libs, client)
	if e != api.OK {
		t.Fatalf("error %d at %d, %v", e, at, isClient)
	}
	return m
}

func mustLink(t *testing.T, libs, client string) link.Image {
	t.Helper()
	return linkTrees(t, mustParse(t, libs), mustParse(t, client))
}

// mark stands ahead of the statement at which a run is stuck.
const mark = "@"

// example is two texts and what their run comes to. Of one that is stuck the mark tells the rest.
type example struct {
	libs, client string
	script       []int
	want         Outcome
}

// linked: the image, and all that is wanted.
func (e example) linked(t *testing.T) (link.Image, Outcome) {
	t.Helper()
	if at := strings.Index(e.libs, mark); at >= 0 {
		e.want.At = at
	}
	if at := strings.Index(e.client, mark); at >= 0 {
		e.want.At, e.want.Client = at, true
	}
	return mustLink(t, strings.Replace(e.libs, mark, "", 1), strings.Replace(e.client, mark, "", 1)), e.want
}

func wantRun(t *testing.T, m link.Image, script []int, n int, want Outcome) {
	t.Helper()
	if got := Run(m, script, n); got != want {
		t.Errorf("P10.1: under %v, at most %d steps:\n got %+v\nwant %+v", script, n, got, want)
	}
}

// someEnds: runs that end, each by a step that takes no cells.
func someEnds() []example {
	stuck := func(why mem.Stuck, steps, used int) Outcome {
		return Outcome{End: state.Stuck, Why: why, Steps: steps, Used: used}
	}
	return []example{
		{"", "fn main() { }", nil, Outcome{End: state.Done, Steps: 1}},
		{"", "fn main() { x = 1; x = x + 1; y = x - 5; return y; }", nil, Outcome{End: state.Done, Steps: 4}},
		{"fn f() { }", "fn main() { f(); }", nil, Outcome{End: state.Done, Steps: 3}},
		{"fn f(i: int) -> int { if i < 3 { return 1; } else { i = i - 1; } return i; }", "fn main() { i = f(2); i = f(i); i = f(5); }", nil, Outcome{End: state.Done, Steps: 11}},
		{"", "fn main() { i = 0; while i < 3 { i = i + 1; } }", nil, Outcome{End: state.Done, Steps: 12}},
		{"", "fn main() { p = new 3; q = new 0; free p; }", nil, Outcome{End: state.Done, Steps: 4, Used: 5}},
		{"", "fn main() { fork w(1); fork w(2); } fn w(i: int) { }", nil, Outcome{End: state.Done, Steps: 5}},
		{"fn inc(p: &t) { lock p[0]; x = p[1]; p[1] = x + 1; unlock p[0]; }", "fn main() { n = 2; p = array n; fork w(p); inc(p); } fn w(p: int) { inc(p); }", nil, Outcome{End: state.Done, Steps: 21, Used: 3}},
		// One step of the 22 is that of a lock that isn't had.
		{"fn inc(p: &t) { lock p[0]; x = p[1]; p[1] = x + 1; unlock p[0]; }", "fn main() { n = 2; p = array n; fork w(p); inc(p); } fn w(p: int) { inc(p); }", []int{0, 0, 0, 0, 0, 1, 1, 0, 0, 0, 0, 0, 0, 0, 0, 0, 0, 0, 0, 0, 0, 0}, Outcome{End: state.Done, Steps: 22, Used: 3}},
		{"fn f() { abort; }", "fn main() { p = new 2; f(); }", nil, Outcome{End: state.Aborted, Steps: 3, Used: 3}},
		{"", "fn main() { x = 1; while 0 < x { x = x + x; } }", nil, Outcome{End: state.Overflow, Steps: 1 + 40*3 + 2}},
		{"", "fn main() { while 0 < 1 { p = new 200; } }", nil, Outcome{End: state.Full, Steps: 20*3 + 2, Used: 20 * 201}},
		{"fn f() { f(); }", "fn main() { f(); }", nil, Outcome{End: state.Full, Steps: 64}},
		{"", "fn w() { } fn main() { while 0 < 1 { fork w(); } }", nil, Outcome{End: state.Full, Steps: 63*3 + 2}},
		// Stuck in a client's code.
		{"", "fn main() { @y = x; }", nil, stuck(mem.Empty, 1, 0)},
		{"fn f() { } fn g() { }", "fn main() { f(); i = g(); @i = i + 1; }", nil, stuck(mem.Empty, 5, 0)},
		{"fn f() { } fn g() { }", "fn w() { @free p; } fn main() { fork w(); }", nil, stuck(mem.Empty, 3, 0)},
		{"", "fn main() { p = new 1; p[0] = p; @lock p[0]; }", nil, stuck(mem.Type, 4, 2)},
		{"", "fn main() { p = new 1; @unlock p[0]; }", nil, stuck(mem.Empty, 2, 2)},
		{"", "fn main() { p = new 1; while 0 < 1 { @if p < 3 { abort; } } }", nil, stuck(mem.Type, 3, 2)},
		{"", "fn main() { i = 0; @while i < n { } }", nil, stuck(mem.Empty, 2, 0)},
		{"", "fn main() { @return x; }", nil, stuck(mem.Empty, 1, 0)},
		{"fn f(i: int) { }", "fn main() { @f(x); }", nil, stuck(mem.Empty, 1, 0)},
		{"fn f() { while 0 < 1 { } }", "fn main() { fork w(); @x = y; } fn w() { f(); }", []int{0, 1, 1, 0}, stuck(mem.Empty, 4, 0)},
		{"", "fn main() { fork w(); while 0 < 1 { } } fn w() { x = 1; @fork v(y); } fn v(i: int) { }", []int{0, 1}, stuck(mem.Empty, 4, 0)},
		// And in a library's.
		{"fn r(p: &t) -> int { @x = p[0]; return x; }", "fn main() { p = new 1; y = r(p); }", nil, stuck(mem.Empty, 4, 2)},
		{"fn f(p: &t) { g(p); } fn g(p: &t) { @free p; }", "fn main() { f(3); }", nil, stuck(mem.Type, 3, 0)},
		{"fn f(p: &t) { @p[2] = 1; }", "fn main() { p = new 2; fork w(p); while 0 < 1 { } } fn w(p: int) { f(p); }", []int{1}, stuck(mem.Bounds, 4, 3)},
		{"fn d(p: own t) { @free p; }", "fn main() { p = new 1; d(p); d(p); }", nil, stuck(mem.Gone, 6, 2)},
		{"fn w(p: &t) { @p[0] = 1; }", "fn v(p: int) { w(p); } fn main() { p = new 1; fork v(p); w(p); }", []int{0, 0, 0, 0, 1, 1}, stuck(mem.Race, 6, 2)},
		{"fn w(p: &t) { p[0] = 1; } fn r(p: &t) { @x = p[0]; }", "fn v(p: int) { w(p); } fn main() { p = new 1; fork v(p); r(p); }", []int{0, 0, 0, 1, 1, 0}, stuck(mem.Race, 6, 2)},
	}
}

// TestP101Ends: how runs end, at the step of the end and beyond it; ahead of it they are under way.
func TestP101Ends(t *testing.T) {
	for _, e := range someEnds() {
		m, want := e.linked(t)
		for _, n := range []int{math.MinInt, -api.MaxSteps, -2, -1, 0} {
			wantRun(t, m, e.script, n, Outcome{})
		}
		wantRun(t, m, e.script, want.Steps-1, Outcome{Steps: want.Steps - 1, Used: want.Used})
		for _, n := range []int{want.Steps, want.Steps + 1, 2 * want.Steps, 1000, api.MaxSteps - 1, api.MaxSteps, api.MaxSteps + 1, math.MaxInt} {
			wantRun(t, m, e.script, n, want)
		}
		if t.Failed() {
			t.Fatalf("the texts are %q and %q", e.libs, e.client)
		}
	}
}

// TestP101MaxSteps: no run has more than MaxSteps steps.
func TestP101MaxSteps(t *testing.T) {
	endless := mustLink(t, "", "fn main() { n = 1; p = array n; lock p[0]; lock p[0]; }")
	// So many rounds make a run of MaxSteps - 1 steps, and each Set ahead of them one more.
	const rounds = "i = 0; while i < 21844 { i = i + 1; } "
	less := mustLink(t, "", "fn main() { "+rounds+"}")
	same := mustLink(t, "", "fn main() { x = 1; "+rounds+"}")
	more := mustLink(t, "", "fn main() { x = 1; x = 1; "+rounds+"}")
	stuck := mustLink(t, "", "fn main() { x = 1; "+rounds+"return y; }")
	late := mustLink(t, "", "fn main() { x = 1; x = 1; "+rounds+"return y; }")
	const most = api.MaxSteps
	at := len("fn main() { x = 1; " + rounds)
	for _, c := range []struct {
		m    link.Image
		n    int
		want Outcome
	}{
		{endless, most - 1, Outcome{Steps: most - 1, Used: 2}},
		{endless, most, Outcome{Steps: most, Used: 2}},
		{endless, most + 1, Outcome{Steps: most, Used: 2}},
		{endless, 1 << 20, Outcome{Steps: most, Used: 2}},
		{endless, math.MaxInt, Outcome{Steps: most, Used: 2}},
		{less, most - 2, Outcome{Steps: most - 2}},
		{less, most - 1, Outcome{End: state.Done, Steps: most - 1}},
		{less, most, Outcome{End: state.Done, Steps: most - 1}},
		{less, math.MaxInt, Outcome{End: state.Done, Steps: most - 1}},
		{same, most - 1, Outcome{Steps: most - 1}},
		{same, most, Outcome{End: state.Done, Steps: most}},
		{same, most + 1, Outcome{End: state.Done, Steps: most}},
		{more, most, Outcome{Steps: most}},
		{more, most + 1, Outcome{Steps: most}},
		{more, math.MaxInt, Outcome{Steps: most}},
		{stuck, most, Outcome{End: state.Stuck, Why: mem.Empty, Steps: most, At: at, Client: true}},
		{stuck, math.MaxInt, Outcome{End: state.Stuck, Why: mem.Empty, Steps: most, At: at, Client: true}},
		{late, math.MaxInt, Outcome{Steps: most}},
	} {
		wantRun(t, c.m, nil, c.n, c.want)
	}
}

// TestP101Picks: the script begins again behind its last pick. The run is aborted at the fourth pick of main behind the first step, which only main can do.
func TestP101Picks(t *testing.T) {
	m := mustLink(t, "", "fn w() { while 0 < 1 { } } fn main() { fork w(); x = 1; x = 2; x = 3; abort; }")
	never := Outcome{Steps: 900}
	aborted := func(steps int) Outcome { return Outcome{End: state.Aborted, Steps: steps} }
	for _, c := range []struct {
		script []int
		want   Outcome
	}{
		{nil, aborted(5)}, {[]int{}, aborted(5)}, {[]int{0}, aborted(5)}, {[]int{1}, never},
		{[]int{0, 0, 0}, aborted(5)}, {[]int{1, 1, 1, 1}, never},
		{[]int{1, 0}, aborted(8)}, {[]int{0, 1}, aborted(9)}, {[]int{0, 1, 1}, aborted(13)}, {[]int{1, 1, 0}, aborted(12)},
		{[]int{0, 0, 0, 0, 0}, aborted(5)}, {[]int{1, 0, 0, 0, 0}, aborted(5)}, {[]int{0, 0, 0, 0, 0, 1, 1}, aborted(5)},
		{[]int{0, 0, 0, 0, 1}, aborted(6)}, {[]int{0, 1, 1, 1, 1, 0, 0, 0, 0, 1, 0}, aborted(9)},
		{[]int{2}, aborted(5)}, {[]int{3}, never}, {[]int{-1}, aborted(5)}, {[]int{-2}, never}, {[]int{-3}, aborted(5)},
		{[]int{math.MaxInt}, never}, {[]int{math.MinInt}, never}, {[]int{math.MaxInt - 1}, aborted(5)}, {[]int{math.MinInt + 1}, aborted(5)},
		{[]int{math.MinInt, 4, -2, math.MaxInt - 1, 7, -4, math.MinInt + 1, math.MaxInt, 64}, aborted(9)},
		{append(slices.Repeat([]int{1}, 300), 0), aborted(300 + 3*301 + 1)},
	} {
		n := 900
		if c.want.Steps > n {
			n = api.MaxSteps
		}
		wantRun(t, m, c.script, n, c.want)
	}
}

// TestP101ManyThreads: a pick counts among the threads that haven't ended, whatever their number. The thread 2 takes more cells than the others, by a step more.
func TestP101ManyThreads(t *testing.T) {
	const client = "fn main() { fork w(1); fork w(2); fork w(3); } fn w(i: int) { if i == 2 { p = new 7; } else { p = new 1; } x = none; }"
	m := mustLink(t, "", client)
	stuck := Outcome{End: state.Stuck, Why: mem.Empty, Steps: 6, At: strings.Index(client, "x = none"), Client: true, Used: 2}
	second := stuck
	second.Steps, second.Used = 7, 8
	for pick, want := range map[int]Outcome{1: stuck, 2: second, 3: stuck, 6: second, 401: stuck, -2: stuck, -3: second, -7: second, math.MinInt: stuck, math.MaxInt: stuck, math.MaxInt - 1: second, math.MinInt + 1: second} {
		script := append([]int{0, 0, 0}, slices.Repeat([]int{pick}, 9)...)
		wantRun(t, m, script, 20, want)
	}
}

// TestP101NoMain: of an image without such a main there is no run.
func TestP101NoMain(t *testing.T) {
	none := Outcome{End: state.Done}
	m := mustLink(t, "fn f() { }", "fn main() { x = y; }")
	images := []link.Image{{}, {Main: 1}, {Libs: 1}}
	for _, main := range []int{-1, 2, 3, math.MinInt, math.MaxInt} {
		images = append(images, link.Image{Codes: m.Codes, Libs: m.Libs, Main: main})
	}
	// Behind the list's length there is a code, but it is none of the image's.
	images = append(images, link.Image{Codes: m.Codes[:1], Libs: 1, Main: 1})
	for _, m := range images {
		for _, n := range []int{math.MinInt, -1, 0, 1, 5, api.MaxSteps, math.MaxInt} {
			wantRun(t, m, nil, n, none)
			wantRun(t, m, []int{1, -1}, n, none)
			wantNone(t, m, n, n)
			wantNone(t, m, n, 9)
			wantNone(t, m, 9, n)
		}
	}
}

// TestP101HandedIn: the image and the script stay as they are, and what lies behind the script's length counts nothing.
func TestP101HandedIn(t *testing.T) {
	for _, e := range someEnds() {
		m, want := e.linked(t)
		same, _ := e.linked(t)
		behind := append(slices.Clone(e.script), 1, 99, -3)
		script := behind[:len(e.script)]
		kept := slices.Clone(behind)
		wantRun(t, m, script, 1000, want)
		Search(m, 7, 20)
		if !slices.Equal(behind, kept) {
			t.Errorf("P10.1: the script %v is %v behind the run", kept, behind)
		}
		if !reflect.DeepEqual(m, same) {
			t.Errorf("P10.1: the image is changed by a run")
		}
		wantRun(t, m, script, 1000, want)
	}
}

// TestRunsApart: runs have nothing to do with one another (P2), of one image or of several, one behind the other or at once.
func TestRunsApart(t *testing.T) {
	examples := someEnds()
	slices.Reverse(examples)
	var all sync.WaitGroup
	for _, e := range examples {
		m, want := e.linked(t)
		for range 3 {
			all.Go(func() {
				wantRun(t, m, e.script, 1000, want)
				wantRun(t, m, e.script, 0, Outcome{})
				Search(m, 5, 9)
				wantRun(t, m, e.script, 1000, want)
			})
		}
		wantRun(t, m, e.script, 1000, want)
	}
	all.Wait()
}

// TestP101TreesOfParts: whose code a frame's is, its number tells, and where it stands its tree, whatever text that was read from.
func TestP101TreesOfParts(t *testing.T) {
	const text = "fn f(p: &t) { x = p[0]; } fn main() { f(3); } fn w(p: int) { f(3); }"
	tree := mustParse(t, text)
	unit := func(kids ...syntax.Node) syntax.Node { return syntax.Node{Kids: kids} }
	m := linkTrees(t, unit(tree.Kids[0]), unit(tree.Kids[1]))
	wantRun(t, m, nil, 9, Outcome{End: state.Stuck, Why: mem.Type, Steps: 2, At: strings.Index(text, "x = p")})
	w := tree.Kids[2]
	w.Text = "f"
	m = linkTrees(t, unit(w), unit(tree.Kids[1]))
	wantRun(t, m, nil, 900, Outcome{End: state.Full, Steps: 64})
	main := tree.Kids[0]
	main.Text, main.Kids = "main", main.Kids[1:]
	m = linkTrees(t, unit(w), unit(main))
	wantRun(t, m, nil, 9, Outcome{End: state.Stuck, Why: mem.Empty, Steps: 1, At: strings.Index(text, "x = p"), Client: true})
}

// TestPicks: picks go on and on, as long as they are asked for.
func TestPicks(t *testing.T) {
	for _, script := range [][]int{nil, {}, {0}, {7}, {1, 2}, {-1, math.MaxInt, math.MinInt}} {
		for _, most := range []int{1, 2, 3, 10, 100} {
			var got []int
			for pick := range picks(script) {
				got = append(got, pick)
				if len(got) == most {
					break
				}
			}
			for i, pick := range got {
				want := 0
				if len(script) > 0 {
					want = script[i%len(script)]
				}
				if pick != want {
					t.Errorf("P10.1: the pick %d of %v is %d", i, script, pick)
				}
			}
		}
	}
}
