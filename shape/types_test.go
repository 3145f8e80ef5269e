package shape

import (
	"fmt"
	"slices"
	"strings"
	"testing"

	"lychgate/api"
	"lychgate/diff"
	"lychgate/syntax"
)

func mustParse(t *testing.T, text string) syntax.Node {
	t.Helper()
	n, at, e := syntax.Parse(text)
	if e != api.OK {
		t.Fatalf("%q isn't read: error %d at %d", text, e, at)
	}
	return n
}

// sameType: are they the same in all fields? An empty list may be nil or not.
func sameType(a, b Type) bool {
	return a.Name == b.Name && a.Sort == b.Sort && a.Of == b.Of && slices.Equal(a.Fields, b.Fields) && slices.Equal(a.Facts, b.Facts)
}

func sameTable(a, b Table) bool { return slices.EqualFunc(a, b, sameType) }

// wantTable holds a text without a fault against its types.
func wantTable(t *testing.T, text string, want ...Type) {
	t.Helper()
	got, at, e := Types(mustParse(t, text))
	if !sameTable(got, want) || at != 0 || e != api.OK {
		t.Errorf("P11.1: %q:\n got %+v, error %d at %d\nwant %+v", text, got, e, at, want)
	}
}

// wantFault holds a text against an error whose place is marked by an @.
func wantFault(t *testing.T, text string, want api.Errno) {
	t.Helper()
	if strings.Count(text, "@") != 1 {
		t.Fatalf("%q must have one @", text)
	}
	place := strings.Index(text, "@")
	got, at, e := Types(mustParse(t, strings.Replace(text, "@", "", 1)))
	if at != place || e != want {
		t.Errorf("P11.1: %q: error %d at %d, want %d at %d", text, e, at, want, place)
	}
	if len(got) > 0 {
		t.Errorf("P11.1: %q: beside error %d stands %+v", text, e, got)
	}
}

// numbers: fields that are numbers, of these names.
func numbers(names ...string) []Field {
	var fields []Field
	for _, name := range names {
		fields = append(fields, Field{name, -1})
	}
	return fields
}

// example is the chapter's.
const example = "type vec own { len, cap, d[cap] } where 0 <= len, len <= cap;"

func exampleType() Type {
	return Type{Name: "vec", Fields: []Field{{"len", -1}, {"cap", -1}, {"d", 1}}, Facts: []diff.Leq{{X: 0, Y: 1}, {X: 1, Y: 2}}}
}

func TestP111Example(t *testing.T) {
	wantTable(t, example, exampleType())
}

// TestP111Sorts: types of each sort alone, with as little as they may have.
func TestP111Sorts(t *testing.T) {
	wantTable(t, "")
	wantTable(t, "fn f() { }")
	wantTable(t, "fn f(a: own b) -> int { lock a[0]; return 1; } fn f() { }")
	wantTable(t, "type a own;", Type{Name: "a", Sort: Own})
	wantTable(t, "type a cell;", Type{Name: "a", Sort: Cell})
	wantTable(t, "type a own { v };", Type{Name: "a", Fields: numbers("v")})
	wantTable(t, "type a cell { v };", Type{Name: "a", Sort: Cell, Fields: numbers("v")})
	wantTable(t, "type a counted n { n };", Type{Name: "a", Sort: Counted, Fields: numbers("n")})
	wantTable(t, "type a lock l { l };", Type{Name: "a", Sort: Lock, Fields: numbers("l")})
	wantTable(t, "type a lock l { l }; type b guard a;", Type{Name: "a", Sort: Lock, Fields: numbers("l")}, Type{Name: "b", Sort: Guard})
	wantTable(t, "type a own where 1 < 2;", Type{Name: "a", Facts: []diff.Leq{{}}})
	wantTable(t, "type a cell where 2 < 1, 0 == 0;", Type{Name: "a", Sort: Cell, Facts: []diff.Leq{{C: -2}, {}, {}}})
}

// TestP111Of: the number of the field that counts or locks, among all fields, and that of the guard's type, among all types.
func TestP111Of(t *testing.T) {
	for i := range api.MaxFields {
		for many := i + 1; many <= api.MaxFields; many++ {
			names := []string{"a", "b", "c", "d", "e", "f", "g", "h"}[:many]
			text := names[i] + " { " + strings.Join(names, ", ") + " };"
			wantTable(t, "type t counted "+text, Type{Name: "t", Sort: Counted, Of: i, Fields: numbers(names...)})
			wantTable(t, "type t lock "+text, Type{Name: "t", Sort: Lock, Of: i, Fields: numbers(names...)})
		}
	}
	lock := func(name string) Type { return Type{Name: name, Sort: Lock, Of: 1, Fields: numbers("v", "l")} }
	guard := func(name string, of int) Type { return Type{Name: name, Sort: Guard, Of: of} }
	wantTable(t, "type o own; fn f() { } type a lock l { v, l }; type b lock l { v, l }; type g guard b; fn a() { } type h guard a; type i guard b; type c lock l { v, l }; type j guard c;",
		Type{Name: "o"}, lock("a"), lock("b"), guard("g", 2), guard("h", 1), guard("i", 2), lock("c"), guard("j", 6))
}

// TestP111Arrays: ahead of and behind the number that tells how long they are.
func TestP111Arrays(t *testing.T) {
	own := func(fields ...Field) Type { return Type{Name: "a", Fields: fields} }
	for text, want := range map[string]Type{
		"n, d[n]":       own(Field{"n", -1}, Field{"d", 0}),
		"d[n], n":       own(Field{"d", 1}, Field{"n", -1}),
		"d[n], n, e[n]": own(Field{"d", 1}, Field{"n", -1}, Field{"e", 1}),
		"d[n], e[n], n": own(Field{"d", 2}, Field{"e", 2}, Field{"n", -1}),
		"m, d[n], n, e[m], x, f[x], g[m], y": own(Field{"m", -1}, Field{"d", 2}, Field{"n", -1}, Field{"e", 0},
			Field{"x", -1}, Field{"f", 4}, Field{"g", 0}, Field{"y", -1}),
		"b[a], c[a], d[a], e[a], f[a], g[a], h[a], a": own(Field{"b", 7}, Field{"c", 7}, Field{"d", 7}, Field{"e", 7}, Field{"f", 7}, Field{"g", 7}, Field{"h", 7}, Field{"a", -1}),
	} {
		wantTable(t, "type a own { "+text+" };", want)
	}
	// What is true of its size is a fact like others, and where arrays stand changes nothing of the variables.
	wantTable(t, "type a own { d[n], v, e[n], n } where v < n, 1 <= v;",
		Type{Name: "a", Fields: []Field{{"d", 3}, {"v", -1}, {"e", 3}, {"n", -1}}, Facts: []diff.Leq{{X: 2, Y: 4, C: -1}, {X: 0, Y: 2, C: -1}}})
}

// TestP111Facts: each comparison with names, numbers alone and sums on both sides.
func TestP111Facts(t *testing.T) {
	const most = api.MaxNum
	for text, want := range map[string][]diff.Leq{
		"x < y":         {{X: 1, Y: 2, C: -1}},
		"x <= y":        {{X: 1, Y: 2, C: 0}},
		"x == y":        {{X: 1, Y: 2, C: 0}, {X: 2, Y: 1, C: 0}},
		"y < x":         {{X: 2, Y: 1, C: -1}},
		"x < x":         {{X: 1, Y: 1, C: -1}},
		"x == x + 1":    {{X: 1, Y: 1, C: 1}, {X: 1, Y: 1, C: -1}},
		"x < 7":         {{X: 1, Y: 0, C: 6}},
		"x <= -7":       {{X: 1, Y: 0, C: -7}},
		"7 == y":        {{X: 0, Y: 2, C: -7}, {X: 2, Y: 0, C: 7}},
		"-7 < y":        {{X: 0, Y: 2, C: 6}},
		"0 <= y":        {{X: 0, Y: 2, C: 0}},
		"x + 3 < y + 5": {{X: 1, Y: 2, C: 1}},
		"x - 3 < y":     {{X: 1, Y: 2, C: 2}},
		"x <= y - 3":    {{X: 1, Y: 2, C: -3}},
		"x + 3 <= y":    {{X: 1, Y: 2, C: -3}},
		"y - 4 == x + 3": {
			{X: 2, Y: 1, C: 7}, {X: 1, Y: 2, C: -7},
		},
		"3 < 5":                                  {{C: 1}},
		"5 < 3":                                  {{C: -3}},
		"5 <= 3":                                 {{C: -2}},
		"-3 == 4":                                {{C: 7}, {C: -7}},
		"x < 1099511627776":                      {{X: 1, C: most - 1}},
		"-1099511627776 < y":                     {{Y: 2, C: most - 1}},
		"1099511627776 < -1":                     {{C: -most - 2}},
		"x+1099511627776 < y":                    {{X: 1, Y: 2, C: -most - 1}},
		"x <= y+1099511627776":                   {{X: 1, Y: 2, C: most}},
		"x < y, y < x, x < y":                    {{X: 1, Y: 2, C: -1}, {X: 2, Y: 1, C: -1}, {X: 1, Y: 2, C: -1}},
		"x == 1, y <= 2, 3 == y":                 {{X: 1, C: 1}, {Y: 1, C: -1}, {X: 2, C: 2}, {Y: 2, C: -3}, {X: 2, C: 3}},
		"0 <= x, x <= y, y < 10, 1< 2":           {{Y: 1}, {X: 1, Y: 2}, {X: 2, C: 9}, {}},
		"x - 1099511627776 == y + 1099511627776": {{X: 1, Y: 2, C: 2 * most}, {X: 2, Y: 1, C: -2 * most}},
		"x + 1099511627776 < y - 1099511627776":  {{X: 1, Y: 2, C: -2*most - 1}},
	} {
		wantTable(t, "type a own { x, y } where "+text+";", Type{Name: "a", Fields: numbers("x", "y"), Facts: want})
		wantTable(t, "type b cell { x, y } where "+text+";", Type{Name: "b", Sort: Cell, Fields: numbers("x", "y"), Facts: want})
		wantTable(t, "type c counted n { x, y, n } where "+text+";", Type{Name: "c", Sort: Counted, Of: 2, Fields: numbers("x", "y", "n"), Facts: want})
		wantTable(t, "type d lock l { x, y, l } where "+text+";", Type{Name: "d", Sort: Lock, Of: 2, Fields: numbers("x", "y", "l"), Facts: want})
	}
}

// TestP111Several: types of each sort with Fns between them, and names that say nothing to one another.
func TestP111Several(t *testing.T) {
	wantTable(t, `
fn vec() { }
`+example+`
fn vec_new(n: int) -> own vec { if n < 0 { abort; } p = new 3; d = array n; p[0] = 0; p[1] = n; p[2] = d; return p; }
type cel cell { v };
type rc counted n { n, v } where v - 1 == 3;
fn rc_get(r: &rc) -> int { x = r[1]; return x; }
type mtx lock l { l, v };
type grd guard mtx;
fn grd_end(g: own grd) { unlock g[0]; }
type last own { mtx, grd[n], n, vec } where mtx < vec;
`,
		exampleType(),
		Type{Name: "cel", Sort: Cell, Fields: numbers("v")},
		Type{Name: "rc", Sort: Counted, Fields: numbers("n", "v"), Facts: []diff.Leq{{X: 2, C: 4}, {Y: 2, C: -4}}},
		Type{Name: "mtx", Sort: Lock, Fields: numbers("l", "v")},
		Type{Name: "grd", Sort: Guard, Of: 3},
		Type{Name: "last", Fields: []Field{{"mtx", -1}, {"grd", 2}, {"n", -1}, {"vec", -1}}, Facts: []diff.Leq{{X: 1, Y: 4, C: -1}}})
	// A type, its fields and a Fn may have one name.
	wantTable(t, "fn a() { } type a own { a, b[a] }; type b cell { a, b }; type c counted c { c }; type d lock d { d, a }; type e guard d;",
		Type{Name: "a", Fields: []Field{{"a", -1}, {"b", 0}}}, Type{Name: "b", Sort: Cell, Fields: numbers("a", "b")},
		Type{Name: "c", Sort: Counted, Fields: numbers("c")}, Type{Name: "d", Sort: Lock, Fields: numbers("d", "a")}, Type{Name: "e", Sort: Guard, Of: 3})
}

// TestP111Most: about as many types as a text has room for, and as many facts as a tree may have.
func TestP111Most(t *testing.T) {
	const many, facts = 1000, (api.MaxNodes - 3) / 3
	var text strings.Builder
	want := make([]Type, many)
	for i := range many {
		want[i].Name = fmt.Sprintf("a%d", i)
		fmt.Fprintf(&text, "type %s own;", want[i].Name)
	}
	wantTable(t, text.String(), want...)
	wantFault(t, text.String()+"@type a0 own;", api.ErrTwice)
	wantFault(t, text.String()+"@type a999 cell { a, a };", api.ErrTwice)
	wantFault(t, text.String()+"type a @guard a999;", api.ErrName)

	all := append([]diff.Leq{{}}, slices.Repeat([]diff.Leq{{C: 1}, {C: -1}}, facts-1)...)
	wantTable(t, "type a own where 1<2"+strings.Repeat(",1==2", facts-1)+";", Type{Name: "a", Facts: all})
	wantFault(t, "type a own where 1<2"+strings.Repeat(",1==2", facts-2)+",@1<b;", api.ErrFact)
}
