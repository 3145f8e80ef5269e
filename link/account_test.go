package link

import (
	"math/rand"
	"slices"
	"strconv"
	"strings"
	"testing"

	"lychgate/api"
	"lychgate/syntax"
)

// told is a fault with its place.
type told struct {
	at     int
	client bool
	e      api.Errno
}

// side is a function of a tree, and whether it is the client's.
type side struct {
	fn     syntax.Node
	client bool
}

// fnsOf: the functions of both trees, those of libs ahead.
func fnsOf(libs, client syntax.Node) []side {
	var fns []side
	for i, tree := range []syntax.Node{libs, client} {
		for _, kid := range tree.Kids {
			if kid.Kind == syntax.Fn {
				fns = append(fns, side{kid, i == 1})
			}
		}
	}
	return fns
}

// paramsOf: a Fn's kids are its Params, the Mode of its result and its Block.
func paramsOf(fn syntax.Node) int { return len(fn.Kids) - 2 }

// ask is a call or a fork in a tree.
type ask struct {
	at   int
	name string
	args int
	fork bool
}

// asksOf: what a node's statements ask for, in the order of the text; it knows nothing of code.
func asksOf(n syntax.Node) []ask {
	switch {
	case n.Kind == syntax.Fork:
		return []ask{{n.At, n.Text, len(n.Kids), true}}
	case n.Kind == syntax.Do, n.Kind == syntax.Set && n.Kids[0].Kind == syntax.Call:
		return []ask{{n.At, n.Kids[0].Text, len(n.Kids[0].Kids), false}}
	}
	var asks []ask
	for _, kid := range n.Kids {
		asks = append(asks, asksOf(kid)...)
	}
	return asks
}

// faultsOf: all faults of two trees, in the chapter's order: a second account of P8.1 from the trees alone.
func faultsOf(libs, client syntax.Node) []told {
	var faults []told
	fns := fnsOf(libs, client)
	for i, s := range fns {
		if slices.ContainsFunc(fns[:i], func(other side) bool { return other.fn.Text == s.fn.Text }) {
			faults = append(faults, told{s.fn.At, s.client, api.ErrTwice})
		}
	}
	for _, s := range fns {
		for _, a := range asksOf(s.fn) {
			fits := func(other side) bool { return other.fn.Text == a.name && other.client == a.fork }
			if i := slices.IndexFunc(fns, fits); i < 0 {
				faults = append(faults, told{a.at, s.client, api.ErrName})
			} else if paramsOf(fns[i].fn) != a.args {
				faults = append(faults, told{a.at, s.client, api.ErrArity})
			}
		}
	}
	if i := mainOf(fns); i < 0 || paramsOf(fns[i].fn) > 0 {
		faults = append(faults, told{0, true, api.ErrMain})
	}
	return faults
}

// mainOf: the number of the client's main; -1, if there is none.
func mainOf(fns []side) int {
	return slices.IndexFunc(fns, func(s side) bool { return s.client && s.fn.Text == "main" })
}

// hold holds what Link and Find tell of two trees against the second account. It tells the fault; none, if there is none.
func hold(t *testing.T, libs, client syntax.Node) told {
	t.Helper()
	m, at, is, e := Link(libs, client)
	var want told
	if faults := faultsOf(libs, client); len(faults) > 0 {
		want = faults[0]
	}
	if got := (told{at, is, e}); got != want {
		t.Fatalf("P8.1: of %v and %v: %v, want %v", libs, client, got, want)
	}
	fns := fnsOf(libs, client)
	var image Image
	if want.e == api.OK {
		image = Image{Codes: lowered(libs, client), Libs: len(lowered(libs)), Main: mainOf(fns)}
	}
	if !sameImage(m, image) {
		t.Fatalf("P8.1: of %v and %v:\n got %v\nwant %v", libs, client, m, image)
	}
	for i, s := range fns {
		if want.e != api.OK {
			wantFind(t, m, s.fn.Text, found{})
		} else {
			wantFind(t, m, s.fn.Text, found{i, !s.client, true})
		}
		wantFind(t, m, s.fn.Text+"?", found{})
	}
	return want
}

// drawer writes texts of functions; what it draws is the same at each run. It draws names and numbers of arguments such that each fault comes up, and often none.
type drawer struct {
	*rand.Rand
	params map[string]int // of the functions that may be asked for
	libs   []string
	forks  []string
}

func (d *drawer) of(choices ...string) string { return choices[d.Intn(len(choices))] }

func (d *drawer) rarely() bool { return d.Intn(60) == 0 }

func (d *drawer) list(many int, item string) string {
	return strings.Join(slices.Repeat([]string{item}, many), ",")
}

func (d *drawer) ask() string {
	form, names := d.of("", "x="), d.libs
	if d.Intn(2) == 0 {
		form, names = "fork ", d.forks
	}
	name := d.of(names...)
	if d.rarely() {
		name = d.of("a", "b", "c", "u", "v", "w", "main", "none")
	}
	args := d.params[name]
	if d.rarely() {
		args = d.Intn(4)
	}
	return form + name + "(" + d.list(args, d.of("x", "1", "y-2")) + ");"
}

func (d *drawer) statement(depth int) string {
	kind := d.Intn(8)
	switch {
	case kind < 2 && depth > 0:
		return "if 1<2{" + d.body(depth-1) + "}" + d.of("", "else{"+d.body(depth-1)+"}")
	case kind == 2 && depth > 0:
		return "while x==1{" + d.body(depth-1) + "}"
	case kind < 6:
		return d.ask()
	}
	return d.of("x=1;", "return;", "abort;", "x=p[y];", "free p;", " ")
}

func (d *drawer) body(depth int) string {
	text := ""
	for range d.Intn(4) {
		text += d.statement(depth)
	}
	return text
}

func (d *drawer) fn(name string) string {
	params := d.params[name]
	if d.rarely() {
		params = d.Intn(4)
	}
	if d.rarely() {
		name = d.of("a", "b", "u", "v", "main")
	}
	return "fn " + name + "(" + d.list(params, "x:int") + ")" + d.of("", "->int") + "{" + d.body(3) + "}"
}

func (d *drawer) text(names []string) string {
	d.Shuffle(len(names), func(i, j int) { names[i], names[j] = names[j], names[i] })
	text := d.of("", "type t own;")
	for _, name := range names {
		if !d.rarely() {
			text += d.fn(name) + d.of("", "\n", "type a own;")
		}
	}
	return text
}

// draw: the texts of libraries and of a client.
func draw(seed int64) (libs, client string) {
	d := &drawer{Rand: rand.New(rand.NewSource(seed)), params: map[string]int{}, libs: []string{"a", "b", "c"}, forks: []string{"main", "u", "v"}}
	for _, name := range []string{"a", "b", "c", "u", "v"} {
		d.params[name] = d.Intn(3)
	}
	libs = d.text(slices.Clone(d.libs))
	return libs, d.text(slices.Clone(d.forks))
}

func TestAccount(t *testing.T) {
	hold(t, mustParse(t, sampleLibs), mustParse(t, sampleClient))
	hold(t, mustParse(t, sampleClient), mustParse(t, sampleLibs))
	faults := map[string]int{}
	for seed := range int64(15000) {
		libs, client := draw(seed)
		got := hold(t, mustParse(t, libs), mustParse(t, client))
		faults[strconv.Itoa(int(got.e))+" "+strconv.FormatBool(got.client)]++
	}
	for _, fault := range []string{"0 false", "30 false", "30 true", "31 false", "31 true", "51 false", "51 true", "55 true"} {
		if faults[fault] < 50 {
			t.Errorf("of the answer %s only %d: not enough to tell", fault, faults[fault])
		}
	}
}

func FuzzLink(f *testing.F) {
	f.Add(sampleLibs, sampleClient)
	f.Add("fn f() { }", "fn main() { f(); }")
	f.Add("fn f(x: int) { f(x); }", "fn main() { while 1 < 2 { fork w(); } } fn w() { x = f(1); }")
	f.Fuzz(func(t *testing.T, libs, client string) {
		a, _, e := syntax.Parse(libs)
		b, _, other := syntax.Parse(client)
		if e == api.OK && other == api.OK {
			hold(t, a, b)
		}
	})
}
