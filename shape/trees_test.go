package shape

import (
	"fmt"
	"math"
	"reflect"
	"slices"
	"sync"
	"testing"

	"lychgate/api"
	"lychgate/diff"
	"lychgate/syntax"
)

// sample has types of each sort, with all that they may have, and Fns.
const sample = "type vec own { len, cap, d[cap], e[len] } where 0 <= len, len <= cap; fn f(x: int) -> own vec { y = x; } type cel cell { v, w } where v == w + 1; type rc counted n { v, n } where v < 5; fn g() { } type mtx lock l { l, a, b } where a <= b - 2, -1 < a; type grd guard mtx;"

// unit: a tree put together of parts.
func unit(parts ...syntax.Node) syntax.Node { return syntax.Node{Kids: parts} }

// wantOf holds a tree against its types.
func wantOf(t *testing.T, libs syntax.Node, want ...Type) {
	t.Helper()
	if got, at, e := Types(libs); !sameTable(got, want) || at != 0 || e != api.OK {
		t.Errorf("P11.1: of %v:\n got %+v, error %d at %d\nwant %+v", libs, got, e, at, want)
	}
}

// wantRefused holds a tree against a fault.
func wantRefused(t *testing.T, libs syntax.Node, wantAt int, want api.Errno) {
	t.Helper()
	if got, at, e := Types(libs); len(got) > 0 || at != wantAt || e != want {
		t.Errorf("P11.1: of %v: %+v, error %d at %d, want %d at %d", libs, got, e, at, want, wantAt)
	}
}

func copyNode(n syntax.Node) syntax.Node {
	n.Kids = slices.Clone(n.Kids)
	for i, kid := range n.Kids {
		n.Kids[i] = copyNode(kid)
	}
	return n
}

// with: a copy of the node with another name.
func with(n syntax.Node, name string) syntax.Node {
	n = copyNode(n)
	n.Text = name
	return n
}

// TestP111Parts: trees that are put together of parts of others, so that places don't tell the order.
func TestP111Parts(t *testing.T) {
	parts := mustParse(t, "type l lock v { v }; type a own { n, d[n] } where n < 3; type g guard l; fn f() { }").Kids
	l, a, g, f := parts[0], parts[1], parts[2], parts[3]
	lock, own := Type{Name: "l", Sort: Lock, Fields: numbers("v")}, Type{Name: "a", Fields: []Field{{"n", -1}, {"d", 0}}, Facts: []diff.Leq{{X: 1, C: 2}}}
	wantOf(t, unit(f, a, l, f, g, f), own, lock, Type{Name: "g", Sort: Guard, Of: 1})
	wantOf(t, unit(a), own)
	wantRefused(t, unit(g, l), g.Kids[0].At, api.ErrName)
	wantRefused(t, unit(a, l, a), a.At, api.ErrTwice)
	wantRefused(t, unit(l, a, g, l), 0, api.ErrTwice)

	// A guard with the parts of another type.
	odd := g
	odd.Kids = []syntax.Node{g.Kids[0], a.Kids[1]}
	wantRefused(t, unit(l, odd), g.Kids[0].At, api.ErrField)
	wantRefused(t, unit(odd, l), g.Kids[0].At, api.ErrName)
	odd.Kids = []syntax.Node{g.Kids[0], a.Kids[3]}
	wantRefused(t, unit(l, odd), g.Kids[0].At, api.ErrField)
	odd.Kids = []syntax.Node{g.Kids[0], a.Kids[1], a.Kids[2]}
	wantRefused(t, unit(l, odd), a.Kids[2].At, api.ErrField)
	// A lock with the fields and the fact of an own type, and one with its fact alone.
	odd = l
	odd.Kids = append(slices.Clone(l.Kids), a.Kids[1:]...)
	wantRefused(t, unit(odd), a.Kids[2].At, api.ErrField)
	odd.Kids = []syntax.Node{l.Kids[0], l.Kids[1], a.Kids[1], a.Kids[3]}
	wantOf(t, unit(odd), Type{Name: "l", Sort: Lock, Fields: numbers("v", "n"), Facts: []diff.Leq{{X: 2, C: 2}}})
	odd.Kids = []syntax.Node{l.Kids[0], a.Kids[1], l.Kids[1], a.Kids[3], a.Kids[3]}
	wantOf(t, unit(odd), Type{Name: "l", Sort: Lock, Of: 1, Fields: numbers("n", "v"), Facts: []diff.Leq{{X: 1, C: 2}, {X: 1, C: 2}}})
	odd.Kids = []syntax.Node{l.Kids[0], l.Kids[1], a.Kids[3]}
	wantRefused(t, unit(odd), a.Kids[3].At, api.ErrFact)
	odd.Kids = []syntax.Node{l.Kids[0], a.Kids[1]}
	wantRefused(t, unit(odd), l.Kids[0].At, api.ErrField)
	odd.Kids = []syntax.Node{a.Kids[0], a.Kids[2], a.Kids[1]}
	wantOf(t, unit(odd), Type{Name: "l", Fields: []Field{{"d", 1}, {"n", -1}}})

	// Places are told as they stand, also the least and the greatest.
	for _, at := range []int{math.MinInt, -1, 0, math.MaxInt} {
		twice := l
		twice.At = at
		wantRefused(t, unit(l, twice), at, api.ErrTwice)
	}
}

// TestP111AnyNames: what is no name in a text is one in a tree.
func TestP111AnyNames(t *testing.T) {
	parts := mustParse(t, "type l lock v { v, w } where w < 3; type g guard l; type a own { n, d[n] } where 1 < n;").Kids
	for _, name := range []string{"", " ", "own", "guard", "-1", "\xff {", "\x00", "N", "a name that is longer than a text may have it"} {
		l := with(parts[0], name)
		l.At = 5
		g := copyNode(parts[1])
		g.Kids[0].Kids[0].Text = name
		lock := Type{Name: name, Sort: Lock, Fields: numbers("v", "w"), Facts: []diff.Leq{{X: 2, C: 2}}}
		wantOf(t, unit(l, g), lock, Type{Name: "g", Sort: Guard})
		wantRefused(t, unit(l, parts[1]), parts[1].Kids[0].At, api.ErrName)
		wantRefused(t, unit(parts[0], g), g.Kids[0].At, api.ErrName)
		wantRefused(t, unit(l, g, l), 5, api.ErrTwice)

		l.Kids[0].Kids[0].Text = name
		wantRefused(t, unit(l), l.Kids[0].At, api.ErrField)
		l.Kids[1].Text = name
		lock.Fields = numbers(name, "w")
		wantOf(t, unit(l, g), lock, Type{Name: "g", Sort: Guard})
		l.Kids[2].Text = name
		wantRefused(t, unit(l), l.Kids[2].At, api.ErrTwice)

		a := copyNode(parts[2])
		a.Kids[2].Kids[0].Text = name
		wantRefused(t, unit(a), a.Kids[2].At, api.ErrField)
		a.Kids[1].Text = name
		if name != "" {
			wantRefused(t, unit(a), a.Kids[3].At, api.ErrFact)
		}
		a.Kids[3].Kids[1].Text = name
		own := Type{Name: "a", Fields: []Field{{name, -1}, {"d", 0}}, Facts: []diff.Leq{{Y: 1, C: -2}}}
		if name == "" {
			// A Term without a name is a number, though a field has no name either.
			own.Facts = []diff.Leq{{C: -2}}
		}
		wantOf(t, unit(a), own)
	}
	// A field without a name may count, and a number in a fact is not that field.
	a := copyNode(parts[0])
	a.Kids[0].Text, a.Kids[0].Kids[0].Text, a.Kids[1].Text, a.Kids[3].Kids[0].Text = "counted", "", "", ""
	wantOf(t, unit(a), Type{Name: "l", Sort: Counted, Fields: numbers("", "w"), Facts: []diff.Leq{{C: 2}}})
}

// TestP111PartsLong: more types, and more facts, than a text has room for.
func TestP111PartsLong(t *testing.T) {
	const many = 1 << 17
	parts := mustParse(t, "type a own { v } where v < 1; type l lock v { v };").Kids
	libs := unit(parts[1])
	want := []Type{{Name: "l", Sort: Lock, Fields: numbers("v")}}
	for i := range many {
		n := parts[0]
		n.Text, n.At = fmt.Sprintf("a%d", i), i
		libs.Kids = append(libs.Kids, n)
		want = append(want, Type{Name: n.Text, Fields: numbers("v"), Facts: []diff.Leq{{X: 1}}})
	}
	if got, at, e := Types(libs); !sameTable(got, want) || at != 0 || e != api.OK {
		t.Errorf("P11.1: of %d types: error %d at %d", many, e, at)
	}
	libs.Kids = append(libs.Kids, libs.Kids[many/2])
	if got, at, e := Types(libs); len(got) > 0 || at != many/2-1 || e != api.ErrTwice {
		t.Errorf("P11.1: of %d types and one of them once more: error %d at %d", many, e, at)
	}
	n := copyNode(parts[0])
	for range many {
		n.Kids = append(n.Kids, n.Kids[2])
	}
	wantOf(t, unit(n), Type{Name: "a", Fields: numbers("v"), Facts: slices.Repeat([]diff.Leq{{X: 1}}, many+1)})
	for range many {
		n.Kids = append(n.Kids, n.Kids[1])
	}
	if got, at, e := Types(unit(n)); len(got) > 0 || at != 0 || e != api.ErrMany {
		t.Errorf("P11.1: of %d fields: error %d at %d", many, e, at)
	}
}

// TestP111Lists: what lies behind a list's length isn't read, and an empty list may be nil or not (rule 4).
func TestP111Lists(t *testing.T) {
	libs := mustParse(t, "type a own { v, v } where v < 1, x < 1; type a own;")
	libs.Kids = libs.Kids[:1]
	a := &libs.Kids[0]
	a.Kids = slices.Clone(a.Kids)
	a.Kids = slices.Delete(a.Kids, 2, 3)
	a.Kids = a.Kids[:3]
	wantOf(t, libs, Type{Name: "a", Fields: numbers("v"), Facts: []diff.Leq{{X: 1}}})
	a.Kids = a.Kids[:2]
	wantOf(t, libs, Type{Name: "a", Fields: numbers("v")})
	a.Kids = a.Kids[:1]
	wantOf(t, libs, Type{Name: "a"})
	libs.Kids = libs.Kids[:0]
	for _, none := range []syntax.Node{libs, {}, {Kids: []syntax.Node{}}} {
		wantOf(t, none)
	}
	array := mustParse(t, "type a cell { d[x] };")
	field := &array.Kids[0].Kids[1]
	field.Kids = field.Kids[:0]
	wantOf(t, array, Type{Name: "a", Sort: Cell, Fields: numbers("d")})
}

// changedAt: a copy of the tree in which the node of that number, counted from the root on, is changed.
func changedAt(n syntax.Node, number int, change func(*syntax.Node)) syntax.Node {
	out := copyNode(n)
	left := number
	var find func(n *syntax.Node)
	find = func(n *syntax.Node) {
		if left == 0 {
			change(n)
		}
		left--
		for i := 0; i < len(n.Kids) && left >= 0; i++ {
			find(&n.Kids[i])
		}
	}
	find(&out)
	return out
}

// TestP111ByHand: each node of a sample with kids left out, put twice or in another order, and of each other Kind. That the calls end is all that is wanted, and that an error has nothing beside it.
func TestP111ByHand(t *testing.T) {
	libs := mustParse(t, sample)
	changes := []func(n *syntax.Node){
		func(n *syntax.Node) { n.Kids = nil },
		func(n *syntax.Node) { n.Kids = append(n.Kids, n.Kids...) },
		func(n *syntax.Node) { n.Kids = append(n.Kids, syntax.Node{}) },
		func(n *syntax.Node) { slices.Reverse(n.Kids) },
		func(n *syntax.Node) { n.Text = "" },
		func(n *syntax.Node) { n.Num, n.At, n.Text = math.MinInt64, math.MinInt, "\xff {" },
		func(n *syntax.Node) { n.Num, n.At = math.MaxInt64, math.MaxInt },
		func(n *syntax.Node) { n.Kids = n.Kids[:len(n.Kids)/2] },
		func(n *syntax.Node) { n.Kids = n.Kids[len(n.Kids)/2:] },
	}
	for kind := syntax.Unit - 1; kind <= syntax.Call+1; kind++ {
		changes = append(changes,
			func(n *syntax.Node) { n.Kind = kind },
			func(n *syntax.Node) { n.Kind, n.Kids = kind, nil },
			func(n *syntax.Node) { n.Kids = append([]syntax.Node{{Kind: kind}}, n.Kids...) })
	}
	for _, text := range []string{"own", "cell", "counted", "lock", "guard", "<", "<=", "=="} {
		changes = append(changes, func(n *syntax.Node) { n.Text = text })
	}
	for _, change := range changes {
		for number := range syntax.Size(libs) {
			n := changedAt(libs, number, change)
			if got, at, e := Types(n); e != api.OK && len(got) > 0 || e == api.OK && at != 0 {
				t.Errorf("P11.1: of %v: %+v, error %d at %d", n, got, e, at)
			}
		}
	}
}

func copyTable(table Table) Table {
	table = slices.Clone(table)
	for i := range table {
		table[i].Fields, table[i].Facts = slices.Clone(table[i].Fields), slices.Clone(table[i].Facts)
	}
	return table
}

// spoil writes over all of a list's memory, also what lies behind its length.
func spoil[T any](list []T, with T) {
	list = list[:cap(list)]
	for i := range list {
		list[i] = with
	}
}

// TestP111Memory: what is handed in is neither changed nor kept, and no list of an answer shares memory with another one (rule 4).
func TestP111Memory(t *testing.T) {
	libs := mustParse(t, sample)
	was := copyNode(libs)
	table, _, e := Types(libs)
	other, _, _ := Types(libs)
	if e != api.OK || len(table) != 5 || !sameTable(table, other) {
		t.Fatalf("P11.1: the sample is %+v and %+v, error %d", table, other, e)
	}
	if !reflect.DeepEqual(libs, was) {
		t.Errorf("rule 4: the tree is %v, was %v", libs, was)
	}
	want := copyTable(table)
	same := func(where string) {
		t.Helper()
		if !sameTable(table, want) {
			t.Fatalf("rule 4: %s: %+v, want %+v", where, table, want)
		}
	}
	var change func(n *syntax.Node)
	change = func(n *syntax.Node) {
		for i := range n.Kids {
			change(&n.Kids[i])
		}
		*n = syntax.Node{Kind: syntax.Call, Text: "?", Num: -7, At: -7}
	}
	change(&libs)
	same("the table changes with the tree")
	for i := range table {
		spoil(table[i].Fields, Field{"?", -7})
		table[i].Fields, want[i].Fields = nil, nil
		same("the Fields of a type share memory with another list")
		spoil(table[i].Facts, diff.Leq{X: -7, Y: -7, C: -7})
		table[i].Facts, want[i].Facts = nil, nil
		same("the Facts of a type share memory with another list")
	}
	spoil(table, Type{Name: "?", Of: -7})
	if again, _, _ := Types(was); !sameTable(other, again) {
		t.Errorf("rule 4: two tables share memory: %+v, want %+v", other, again)
	}
	for _, text := range []string{"type a own { d[d] };", "type a own where x < 1;"} {
		libs, kept := mustParse(t, sample+text), mustParse(t, sample+text)
		if Types(libs); !reflect.DeepEqual(libs, kept) {
			t.Errorf("rule 4: a tree that is refused is %v, was %v", libs, kept)
		}
	}
}

// TestApart: calls have nothing to do with one another (P2), one behind the other or at once.
func TestApart(t *testing.T) {
	libs := mustParse(t, sample)
	want, _, _ := Types(libs)
	want = copyTable(want)
	refused := mustParse(t, sample+"type vec own;")
	alone := mustParse(t, "type b guard mtx; type mtx lock l { l };")
	var all sync.WaitGroup
	for range 8 {
		all.Go(func() {
			for range 20 {
				wantOf(t, libs, want...)
				wantRefused(t, refused, len(sample), api.ErrTwice)
				// That another tree has such a lock is nothing to this one.
				wantRefused(t, alone, len("type b "), api.ErrName)
				wantFind(t, want, "grd", 4)
			}
		})
	}
	all.Wait()
}
