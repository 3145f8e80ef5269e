package sign

import (
	"math/rand"
	"slices"
	"strings"
	"testing"

	"lychgate/api"
	"lychgate/shape"
	"lychgate/show"
	"lychgate/syntax"
)

// typeNames are those that drawn tables have: of each sort one or two.
var typeNames = []string{"o", "p", "c", "k", "r", "m", "g", "mutx", "int1"}

// drawer writes texts of functions, and tables; what it draws is the same at each run. It draws such that each fault comes up, and often none.
type drawer struct{ *rand.Rand }

func draw(seed int64) drawer { return drawer{rand.New(rand.NewSource(seed))} }

func (d drawer) of(choices ...string) string { return choices[d.Intn(len(choices))] }

func (d drawer) rarely() bool { return d.Intn(60) == 0 }

func (d drawer) blank() string {
	return d.of(" ", " ", "\n", "  ", " # fn it(a: &o, b: own c) -> int {\n")
}

func (d drawer) gap() string { return d.of("", "", d.blank()) }

// named: own, & or &mut with a type's name.
func (d drawer) named(name string) string {
	return d.of("own"+d.blank(), "&"+d.gap(), "&"+d.gap()+"mut"+d.blank()) + name
}

// typeText: a type of a sort that the name is of.
func (d drawer) typeText(name string) string {
	head := "type" + d.blank() + name + d.blank()
	switch name {
	case "c", "k":
		return head + d.of("cell", "cell { o, p }") + ";"
	case "r":
		return head + "counted n { n };"
	case "m":
		return head + "lock l { v, l } where v < 1;"
	case "g":
		return head + "guard m;"
	}
	return head + d.of("own", "own { n, d[n] } where 0 <= n") + ";"
}

// typesText: mostly all types, in some order, the guard behind its lock.
func (d drawer) typesText() string {
	names := slices.Clone(typeNames)
	d.Shuffle(len(names), func(i, j int) { names[i], names[j] = names[j], names[i] })
	m, g := slices.Index(names, "m"), slices.Index(names, "g")
	if m > g {
		names[m], names[g] = names[g], names[m]
	}
	var text string
	for _, name := range names {
		if name == "m" || !d.rarely() {
			text += d.typeText(name) + d.gap()
		}
	}
	return text
}

// byHand: a table that no text has, in which names may be there twice, and of any sort.
func (d drawer) byHand() shape.Table {
	var table shape.Table
	for range d.Intn(24) {
		table = append(table, shape.Type{Name: d.of(append([]string{"", "a", "f"}, typeNames...)...), Sort: shape.Sort(max(0, d.Intn(9)-3)), Of: d.Intn(5) - 1})
	}
	return table
}

// params: of names that are mostly different, and of types that mostly don't clash.
func (d drawer) params() string {
	many := d.Intn(api.MaxParams + 1)
	if d.rarely() {
		many = api.MaxParams + 1 + d.Intn(2)
	}
	free := slices.Clone(typeNames)
	names := []string{"a", "b", "c", "o", "f", "x", "y", "z", "_", "own1"}
	d.Shuffle(len(names), func(i, j int) { names[i], names[j] = names[j], names[i] })
	var params []string
	for i := range many {
		name := names[i]
		if d.rarely() {
			name = d.of(names...)
		}
		mode := "int"
		if d.Intn(3) > 0 {
			of := d.of(free...)
			if d.rarely() {
				of = d.of(append([]string{"w", "a"}, typeNames...)...)
			}
			mode = d.named(of)
			if of != "o" && of != "p" {
				free = slices.DeleteFunc(free, func(name string) bool { return name == of })
			}
		}
		params = append(params, d.gap()+name+d.gap()+":"+d.gap()+mode+d.gap())
	}
	return strings.Join(params, ",")
}

func (d drawer) result() string {
	switch d.Intn(3) {
	case 0:
		return ""
	case 1:
		return "->" + d.gap() + "int" + d.gap()
	}
	name := d.of(typeNames...)
	if d.Intn(20) == 0 {
		name = d.of("w", "a", "f")
	}
	return "->" + d.gap() + "own" + d.blank() + name + d.gap()
}

func (d drawer) fn() string {
	block := d.of("{ }", "{}", "{ b = &mut a; f(a, w, 1); return o; }", "{ if a < 1 { x = w(a, a); } while 1 < 2 { fork w(c); } }")
	return "fn" + d.blank() + d.of("f", "g", "o", "main") + d.gap() + "(" + d.params() + ")" + d.gap() + d.result() + block
}

// text: functions and types.
func (d drawer) text() string {
	text := d.gap()
	ofTypes := d.typesText()
	isAhead := d.Intn(2) == 0
	if isAhead {
		text += ofTypes
	}
	for range d.Intn(5) {
		text += d.fn() + d.gap()
	}
	if !isAhead {
		text += ofTypes
	}
	return text
}

// table: that of the text, of another one, or one by hand.
func (d drawer) table(t *testing.T, text string) shape.Table {
	t.Helper()
	switch d.Intn(8) {
	case 0:
		return d.byHand()
	case 1:
		return mustTable(t, d.text())
	}
	return mustTable(t, text)
}

// TestDrawn: drawn texts over drawn tables, each against the account.
func TestDrawn(t *testing.T) {
	type kind struct {
		e          api.Errno
		part, last int
	}
	seen := map[kind]int{}
	for seed := range int64(20000) {
		d := draw(seed)
		text := d.text()
		f := hold(t, text, d.table(t, text))
		seen[kind{f.e, f.turn[1], f.turn[3]}]++
	}
	for _, k := range []kind{
		{api.OK, 0, 0}, {api.ErrMany, 1, 0}, {api.ErrTwice, 2, 1}, {api.ErrName, 2, 2}, {api.ErrParam, 2, 3}, {api.ErrName, 3, 0},
	} {
		if seen[k] < 50 {
			t.Errorf("%+v is come to only %d times: not enough to tell", k, seen[k])
		}
	}
	hold(t, sample, mustTable(t, sample))
	hold(t, example, mustTable(t, example))
}

// mixed: a tree of parts of drawn trees: a function has the result of one, and parameters of others, some of them with the mode of yet another.
func mixed(t *testing.T, d drawer) syntax.Node {
	var all, modes []syntax.Node
	var params [][]syntax.Node
	for range 3 {
		for _, n := range mustParse(t, d.text()).Kids {
			all = append(all, n)
			if n.Kind != syntax.Fn {
				continue
			}
			of, _ := partsOf(n)
			params = append(params, of)
			for _, p := range of {
				modes = append(modes, p.Kids[0])
			}
		}
	}
	var out syntax.Node
	for range d.Intn(6) {
		n := copyNode(all[d.Intn(len(all))])
		if n.Kind == syntax.Fn && d.Intn(3) > 0 {
			_, result := partsOf(n)
			of := slices.Clone(params[d.Intn(len(params))])
			if d.Intn(4) == 0 {
				of = append(of, params[d.Intn(len(params))]...)
			}
			n.Kids = append(of, result, n.Kids[len(n.Kids)-1])
			n = copyNode(n)
			for i := range of {
				if d.Intn(8) == 0 {
					n.Kids[i].Text = d.of("a", "b", "v", "w", "x1", "y1")
				}
				if len(modes) > 0 && d.Intn(8) == 0 {
					n.Kids[i].Kids[0] = modes[d.Intn(len(modes))]
				}
			}
		}
		out.Kids = append(out.Kids, n)
	}
	return out
}

// judged: the nodes at which a fault may be, in their order.
func judged(n syntax.Node) []syntax.Node {
	var all []syntax.Node
	switch n.Kind {
	case syntax.Fn, syntax.Param, syntax.Mode:
		all = append(all, n)
	}
	for _, kid := range n.Kids {
		all = append(all, judged(kid)...)
	}
	return all
}

// number gives each node a place of its own, falling, so that places don't tell the order.
func number(n syntax.Node) syntax.Node {
	next := 0
	var visit func(n syntax.Node) syntax.Node
	visit = func(n syntax.Node) syntax.Node {
		next--
		n.At, n.Kids = next, slices.Clone(n.Kids)
		for i, kid := range n.Kids {
			n.Kids[i] = visit(kid)
		}
		return n
	}
	return visit(n)
}

// TestMixed: a tree that is put together of parts has the signatures, or the fault, of the tree that its own text has.
func TestMixed(t *testing.T) {
	accepted, refused := 0, 0
	for seed := range int64(8000) {
		d := draw(seed)
		libs := number(mixed(t, d))
		table := d.table(t, d.text())
		text := show.Show(libs)
		f := hold(t, text, table)
		got, at, e := Sigs(libs, table)
		wantAt := 0
		if f.e != api.OK {
			refused++
			node := slices.IndexFunc(judged(mustParse(t, text)), func(n syntax.Node) bool { return n.At == f.at })
			wantAt = judged(libs)[node].At
		} else {
			accepted++
		}
		if e != f.e || at != wantAt || !sameSigs(got, newAccount(text, table).sigs()) {
			t.Fatalf("P12.1: of a tree as %q has it, over %+v: %+v, error %d at %d, want %d at %d", text, table, got, e, at, f.e, wantAt)
		}
	}
	if accepted < 500 || refused < 500 {
		t.Errorf("%d trees have signatures, %d a fault: not enough to tell", accepted, refused)
	}
}

func FuzzSigs(f *testing.F) {
	f.Add(sample, int64(0))
	f.Add(example, int64(1))
	f.Add("fn f(a: &o, b: &mut c, mut1: own r) -> own g { return a; } fn f(a:int,a:&w)->int{}", int64(2))
	for seed := range int64(20) {
		f.Add(draw(seed).text(), seed)
	}
	f.Fuzz(func(t *testing.T, text string, seed int64) {
		n, _, e := syntax.Parse(text)
		if e != api.OK {
			return
		}
		d := draw(seed)
		hold(t, text, d.byHand())
		hold(t, text, mustTable(t, d.text()))
		if table, _, e := shape.Types(n); e == api.OK {
			hold(t, text, table)
		}
	})
}
