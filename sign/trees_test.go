package sign

import (
	"fmt"
	"math"
	"reflect"
	"slices"
	"sync"
	"testing"

	"lychgate/api"
	"lychgate/diff"
	"lychgate/shape"
	"lychgate/syntax"
)

// sample has Fns of all modes, over types of each sort.
const sample = types + "fn f(a: &o, b: &mut c, x: int, d: own r) -> own g { y = f(a, b, x, d); return y; } type q own; fn g() { } fn h(b: &mut q, a: own m) -> int { if a < b { return 1; } return 2; }"

func sampleSigs() []Sig {
	return []Sig{
		{"f", []Param{{"a", Ref, 0}, {"b", Mut, 1}, {"x", Int, 0}, {"d", Own, 2}}, Param{Mode: Own, Type: 4}},
		{Name: "g"},
		{"h", []Param{{"b", Mut, 6}, {"a", Own, 3}}, Param{Mode: Int}},
	}
}

// unit: a tree put together of parts.
func unit(parts ...syntax.Node) syntax.Node { return syntax.Node{Kids: parts} }

// fnOf: a Fn put together of parts.
func fnOf(name string, at int, parts ...syntax.Node) syntax.Node {
	return syntax.Node{Kind: syntax.Fn, Text: name, At: at, Kids: parts}
}

// wantOf holds a tree over a table against its signatures.
func wantOf(t *testing.T, libs syntax.Node, table shape.Table, want ...Sig) {
	t.Helper()
	if got, at, e := Sigs(libs, table); !sameSigs(got, want) || at != 0 || e != api.OK {
		t.Errorf("P12.1: of %v:\n got %+v, error %d at %d\nwant %+v", libs, got, e, at, want)
	}
}

// wantRefused holds a tree over a table against a fault.
func wantRefused(t *testing.T, libs syntax.Node, table shape.Table, wantAt int, want api.Errno) {
	t.Helper()
	if got, at, e := Sigs(libs, table); len(got) > 0 || at != wantAt || e != want {
		t.Errorf("P12.1: of %v: %+v, error %d at %d, want %d at %d", libs, got, e, at, want, wantAt)
	}
}

func copyNode(n syntax.Node) syntax.Node {
	n.Kids = slices.Clone(n.Kids)
	for i, kid := range n.Kids {
		n.Kids[i] = copyNode(kid)
	}
	return n
}

// with: a copy of the node with another name.
func with(n syntax.Node, name string) syntax.Node {
	n = copyNode(n)
	n.Text = name
	return n
}

// TestP121Parts: trees that are put together of parts of others, so that places don't tell the order.
func TestP121Parts(t *testing.T) {
	table := mustTable(t, types)
	parts := mustParse(t, "fn f(a: int) -> own w { } fn g(b: &o, c: own c) { } type z own; fn h(d: &mut c) -> int { }").Kids
	f, g, z, h := parts[0], parts[1], parts[2], parts[3]
	a, w, b, c, d := f.Kids[0], f.Kids[1], g.Kids[0], g.Kids[1], h.Kids[0]
	nothing, number, block := g.Kids[2], h.Kids[1], h.Kids[2]
	sigG := Sig{Name: "g", Params: []Param{{"b", Ref, 0}, {"c", Own, 1}}}
	sigH := Sig{"h", []Param{{"d", Mut, 1}}, Param{Mode: Int}}
	wantOf(t, unit(h, z, g, h, z), table, sigH, sigG, sigH)
	wantOf(t, unit(z), table)
	wantRefused(t, unit(h, f, g), table, w.At, api.ErrName)
	wantRefused(t, unit(g, f), mustTable(t, "type o own;"), c.Kids[0].At, api.ErrName)
	wantRefused(t, unit(f, g), table, w.At, api.ErrName)

	// Params of other Fns, and the same one twice.
	wantOf(t, unit(fnOf("i", 0, d, a, b, number, block)), table, Sig{"i", []Param{{"d", Mut, 1}, {"a", Int, 0}, {"b", Ref, 0}}, Param{Mode: Int}})
	wantRefused(t, unit(fnOf("i", 0, d, a, c, number, block)), table, c.Kids[0].At, api.ErrParam)
	wantRefused(t, unit(fnOf("i", 0, c, a, d, number, block)), table, d.Kids[0].At, api.ErrParam)
	wantRefused(t, unit(fnOf("i", 0, c, a, c, number, block)), table, c.At, api.ErrTwice)
	wantRefused(t, unit(g, fnOf("i", 0, a, b, a, w, block)), table, a.At, api.ErrTwice)
	wantRefused(t, unit(fnOf("i", 0, a, b, w, block), g), table, w.At, api.ErrName)
	wantOf(t, unit(fnOf("i", 0, a, b, nothing, block)), table, Sig{Name: "i", Params: []Param{{"a", Int, 0}, {"b", Ref, 0}}})
	// A Param's Mode as that of a result, and a result's as that of a Param.
	wantOf(t, unit(fnOf("i", 0, b, d.Kids[0], block)), table, Sig{"i", []Param{{"b", Ref, 0}}, Param{Mode: Mut, Type: 1}})
	wantOf(t, unit(fnOf("i", 0, d, b.Kids[0], block)), table, Sig{"i", []Param{{"d", Mut, 1}}, Param{Mode: Ref}})
	odd := c
	odd.Kids = []syntax.Node{w}
	wantRefused(t, unit(fnOf("i", 0, a, odd, number, block)), table, w.At, api.ErrName)
	odd.Kids = []syntax.Node{number}
	wantOf(t, unit(fnOf("i", 0, d, odd, number, block)), table, Sig{"i", []Param{{"d", Mut, 1}, {"c", Int, 0}}, Param{Mode: Int}})
	// There is no result where there is none, and nothing is handed over by such a Param either.
	odd.Kids = []syntax.Node{nothing}
	wantOf(t, unit(fnOf("i", 0, d, odd, nothing, block)), table, Sig{Name: "i", Params: []Param{{"d", Mut, 1}, {Name: "c"}}})

	// Places are told as they stand, also the least and the greatest.
	for _, at := range []int{math.MinInt, -1, 0, math.MaxInt} {
		moved := copyNode(c)
		moved.At = at
		wantRefused(t, unit(fnOf("i", 7, c, moved, number, block)), table, at, api.ErrTwice)
		moved = copyNode(d)
		moved.Kids[0].At = at
		wantRefused(t, unit(fnOf("i", 7, c, moved, w, block)), table, at, api.ErrParam)
		wantRefused(t, unit(fnOf("i", 7, c, moved, w, block)), nil, c.Kids[0].At, api.ErrName)
		wantRefused(t, unit(fnOf("i", 7, moved, c, w, block)), nil, at, api.ErrName)
		result := w
		result.At = at
		wantRefused(t, unit(g, fnOf("i", 7, c, a, result, block)), table, at, api.ErrName)
		wantRefused(t, unit(h, fnOf("i", at, a, a, a, a, a, a, a, a, a, w, block), g), table, at, api.ErrMany)
	}
}

// TestP121AnyNames: what is no name in a text is one in a tree, and in a table.
func TestP121AnyNames(t *testing.T) {
	parts := mustParse(t, "fn f(a: &o, b: &c) -> own c { }").Kids
	for _, name := range []string{"", " ", "int", "own", "&mut", "->", "-1", "\xff {", "\x00", "N", "a name that is longer than a text may have it"} {
		table := shape.Table{{Name: "o"}, {Name: "c", Sort: shape.Cell}, {Name: name, Sort: shape.Lock}}
		f := with(parts[0], name)
		wantOf(t, unit(f, parts[0]), table,
			Sig{name, []Param{{"a", Ref, 0}, {"b", Ref, 1}}, Param{Mode: Own, Type: 1}},
			Sig{"f", []Param{{"a", Ref, 0}, {"b", Ref, 1}}, Param{Mode: Own, Type: 1}})

		f.Kids[0].Text = name
		wantOf(t, unit(f), table, Sig{name, []Param{{name, Ref, 0}, {"b", Ref, 1}}, Param{Mode: Own, Type: 1}})
		f.Kids[1].Text = name
		wantRefused(t, unit(f), table, f.Kids[1].At, api.ErrTwice)

		f.Kids[1].Text = "b"
		f.Kids[0].Kids[0].Kids[0].Text = name
		wantOf(t, unit(f), table, Sig{name, []Param{{name, Ref, 2}, {"b", Ref, 1}}, Param{Mode: Own, Type: 1}})
		wantRefused(t, unit(f), table[:2], f.Kids[0].Kids[0].At, api.ErrName)
		f.Kids[2].Kids[0].Text = name
		wantOf(t, unit(f), table, Sig{name, []Param{{name, Ref, 2}, {"b", Ref, 1}}, Param{Mode: Own, Type: 2}})
		f.Kids[1].Kids[0].Kids[0].Text = name
		wantRefused(t, unit(f), table, f.Kids[1].Kids[0].At, api.ErrParam)
		f.Kids = f.Kids[2:]
		wantRefused(t, unit(f), table[:2], f.Kids[0].At, api.ErrName)
	}
}

// TestP121PartsLong: more functions and types than a text has room for.
func TestP121PartsLong(t *testing.T) {
	const many = 1 << 16
	parts := mustParse(t, "fn f(a: &c, b: own c) -> own c { }").Kids
	var libs syntax.Node
	var table shape.Table
	var want []Sig
	for i := range many {
		name := func(i int) string { return fmt.Sprintf("t%d", i%many) }
		table = append(table, shape.Type{Name: name(i), Sort: shape.Cell})
		fn := copyNode(parts[0])
		fn.Kids[0].Kids[0].Kids[0].Text, fn.Kids[1].Kids[0].Kids[0].Text, fn.Kids[2].Kids[0].Text = name(i+1), name(i), name(i+2)
		libs.Kids = append(libs.Kids, fn)
		want = append(want, Sig{"f", []Param{{"a", Ref, (i + 1) % many}, {"b", Own, i}}, Param{Mode: Own, Type: (i + 2) % many}})
	}
	if got, at, e := Sigs(libs, table); !sameSigs(got, want) || at != 0 || e != api.OK {
		t.Errorf("P12.1: of %d functions: error %d at %d", many, e, at)
	}
	table[many/2].Name = "t"
	if got, at, e := Sigs(libs, table); len(got) > 0 || at != parts[0].Kids[2].At || e != api.ErrName {
		t.Errorf("P12.1: of %d functions without a type: error %d at %d", many, e, at)
	}
	fn := fnOf("f", 5)
	for range many {
		fn.Kids = append(fn.Kids, parts[0].Kids[0])
	}
	if got, at, e := Sigs(unit(fn), table); len(got) > 0 || at != 5 || e != api.ErrMany {
		t.Errorf("P12.1: of %d parameters: error %d at %d", many, e, at)
	}
}

// TestP121Lists: what lies behind a list's length isn't read, and an empty list may be nil or not (rule 4).
func TestP121Lists(t *testing.T) {
	table := mustTable(t, types)
	libs := mustParse(t, "fn f(a: &c, a: &w, b: &c) { } fn g(a: int, a: int) { }")
	libs.Kids = libs.Kids[:1]
	f := &libs.Kids[0]
	f.Kids = slices.Clone(f.Kids)[:1]
	wantOf(t, libs, table, Sig{Name: "f", Params: []Param{{"a", Ref, 1}}})
	wantRefused(t, libs, table[:1], f.Kids[0].Kids[0].At, api.ErrName)
	f.Kids = f.Kids[:0]
	wantOf(t, libs, table[:0], Sig{Name: "f"})
	libs.Kids = libs.Kids[:0]
	for _, none := range []syntax.Node{libs, {}, {Kids: []syntax.Node{}}} {
		for _, table := range []shape.Table{nil, {}, table, table[:0]} {
			wantOf(t, none, table)
		}
	}
}

// changedAt: a copy of the tree in which the node of that number, counted from the root on, is changed.
func changedAt(n syntax.Node, number int, change func(*syntax.Node)) syntax.Node {
	out := copyNode(n)
	left := number
	var find func(n *syntax.Node)
	find = func(n *syntax.Node) {
		if left == 0 {
			change(n)
		}
		left--
		for i := 0; i < len(n.Kids) && left >= 0; i++ {
			find(&n.Kids[i])
		}
	}
	find(&out)
	return out
}

// TestP121ByHand: each node of a sample with kids left out, put twice or in another order, and of each other Kind. That the calls end is all that is wanted, and that an error has nothing beside it.
func TestP121ByHand(t *testing.T) {
	libs := mustParse(t, sample)
	changes := []func(n *syntax.Node){
		func(n *syntax.Node) { n.Kids = nil },
		func(n *syntax.Node) { n.Kids = append(n.Kids, n.Kids...) },
		func(n *syntax.Node) { n.Kids = append(n.Kids, syntax.Node{}) },
		func(n *syntax.Node) { slices.Reverse(n.Kids) },
		func(n *syntax.Node) { n.Text = "" },
		func(n *syntax.Node) { n.Num, n.At, n.Text = math.MinInt64, math.MinInt, "\xff {" },
		func(n *syntax.Node) { n.Num, n.At = math.MaxInt64, math.MaxInt },
		func(n *syntax.Node) { n.Kids = n.Kids[:len(n.Kids)/2] },
		func(n *syntax.Node) { n.Kids = n.Kids[len(n.Kids)/2:] },
	}
	for kind := syntax.Unit - 1; kind <= syntax.Call+1; kind++ {
		changes = append(changes,
			func(n *syntax.Node) { n.Kind = kind },
			func(n *syntax.Node) { n.Kind, n.Kids = kind, nil },
			func(n *syntax.Node) { n.Kids = append([]syntax.Node{{Kind: kind}}, n.Kids...) })
	}
	for _, text := range []string{"int", "own", "&", "&mut", "o", "c"} {
		changes = append(changes, func(n *syntax.Node) { n.Text = text })
	}
	full := mustTable(t, sample)
	for _, change := range changes {
		for number := range syntax.Size(libs) {
			n := changedAt(libs, number, change)
			for _, table := range []shape.Table{full, full[3:], {{Sort: shape.Sort(-1)}}, nil} {
				if got, at, e := Sigs(n, table); e != api.OK && len(got) > 0 || e == api.OK && at != 0 {
					t.Errorf("P12.1: of %v: %+v, error %d at %d", n, got, e, at)
				}
			}
		}
	}
}

func copySigs(sigs []Sig) []Sig {
	sigs = slices.Clone(sigs)
	for i := range sigs {
		sigs[i].Params = slices.Clone(sigs[i].Params)
	}
	return sigs
}

func copyTable(table shape.Table) shape.Table {
	table = slices.Clone(table)
	for i := range table {
		table[i].Fields, table[i].Facts = slices.Clone(table[i].Fields), slices.Clone(table[i].Facts)
	}
	return table
}

// spoil writes over all of a list's memory, also what lies behind its length.
func spoil[T any](list []T, with T) {
	list = list[:cap(list)]
	for i := range list {
		list[i] = with
	}
}

// spoilTree writes over all of a tree.
func spoilTree(n *syntax.Node) {
	for i := range n.Kids {
		spoilTree(&n.Kids[i])
	}
	*n = syntax.Node{Kind: syntax.Call, Text: "?", Num: -7, At: -7}
}

// TestP121Memory: what is handed in is neither changed nor kept, and no list of an answer shares memory with another one (rule 4).
func TestP121Memory(t *testing.T) {
	libs, table := mustParse(t, sample), mustTable(t, sample)
	wasLibs, wasTable := copyNode(libs), copyTable(table)
	sigs, _, e := Sigs(libs, table)
	other, _, _ := Sigs(libs, table)
	if e != api.OK || !sameSigs(sigs, sampleSigs()) || !sameSigs(other, sampleSigs()) {
		t.Fatalf("P12.1: the sample is %+v and %+v, error %d", sigs, other, e)
	}
	if !reflect.DeepEqual(libs, wasLibs) || !reflect.DeepEqual(table, wasTable) {
		t.Errorf("rule 4: the tree is %v over %+v, was %v over %+v", libs, table, wasLibs, wasTable)
	}
	want := copySigs(sigs)
	same := func(where string) {
		t.Helper()
		if !sameSigs(sigs, want) {
			t.Fatalf("rule 4: %s: %+v, want %+v", where, sigs, want)
		}
	}
	spoilTree(&libs)
	same("the signatures change with the tree")
	for _, of := range table {
		spoil(of.Fields, shape.Field{Name: "?", Size: -7})
		spoil(of.Facts, diff.Leq{X: -7, Y: -7, C: -7})
	}
	spoil(table, shape.Type{Name: "?", Of: -7})
	same("the signatures change with the table")
	for i := range sigs {
		spoil(sigs[i].Params, Param{"?", -7, -7})
		sigs[i].Params, want[i].Params = nil, nil
		same("the Params of a signature share memory with another list")
	}
	spoil(sigs, Sig{Name: "?"})
	if again, _, _ := Sigs(wasLibs, wasTable); !sameSigs(other, sampleSigs()) || !sameSigs(again, sampleSigs()) {
		t.Errorf("rule 4: answers share memory: %+v and %+v", other, again)
	}
}

// TestP121MemoryRefused: a tree that is refused, and its table, stay as they are, at each fault.
func TestP121MemoryRefused(t *testing.T) {
	for _, text := range []string{"fn i(a: int, a: int) { }", "fn i(a: &w) { }", "fn i(a: &c, b: own c) { }", "fn i(a: int) -> own w { }", "fn i(a:int,b:int,c:int,d:int,e:int,f:int,g:int,h:int,i:int) { }"} {
		libs, kept := mustParse(t, sample+text), mustParse(t, sample+text)
		table, keptTable := mustTable(t, sample), mustTable(t, sample)
		if got, _, e := Sigs(libs, table); len(got) > 0 || e == api.OK {
			t.Errorf("P12.1: %q: %+v, error %d", text, got, e)
		}
		if !reflect.DeepEqual(libs, kept) || !reflect.DeepEqual(table, keptTable) {
			t.Errorf("rule 4: a tree that is refused is %v over %+v, was %v over %+v", libs, table, kept, keptTable)
		}
	}
}

// TestApart: calls have nothing to do with one another (P2), one behind the other or at once.
func TestApart(t *testing.T) {
	libs, table := mustParse(t, sample), mustTable(t, sample)
	const wrong = "fn i(a: own m, b: &mut m) { }"
	refused := mustParse(t, sample+wrong)
	alone := mustParse(t, "fn f(a: int, b: &o) { }")
	var all sync.WaitGroup
	for range 8 {
		all.Go(func() {
			for range 20 {
				wantOf(t, libs, table, sampleSigs()...)
				wantRefused(t, refused, table, len(sample)+len("fn i(a: own m, b: "), api.ErrParam)
				// That another table has such a type is nothing to this one.
				wantRefused(t, alone, table[1:], len("fn f(a: int, b: "), api.ErrName)
				wantRefused(t, libs, nil, len(types)+len("fn f(a: "), api.ErrName)
				wantOf(t, alone, table, Sig{Name: "f", Params: []Param{{"a", Int, 0}, {"b", Ref, 0}}})
			}
		})
	}
	all.Wait()
}
