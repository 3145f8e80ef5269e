package sign

import (
	"fmt"
	"slices"
	"strings"
	"testing"

	"lychgate/api"
	"lychgate/shape"
	"lychgate/syntax"
)

func mustParse(t *testing.T, text string) syntax.Node {
	t.Helper()
	n, at, e := syntax.Parse(text)
	if e != api.OK {
		t.Fatalf("%q isn't read: error %d at %d", text, e, at)
	}
	return n
}

// mustTable: the types of a text.
func mustTable(t *testing.T, text string) shape.Table {
	t.Helper()
	table, at, e := shape.Types(mustParse(t, text))
	if e != api.OK {
		t.Fatalf("%q has no types: error %d at %d", text, e, at)
	}
	return table
}

// sameSig: are they the same in all fields? An empty list may be nil or not.
func sameSig(a, b Sig) bool {
	return a.Name == b.Name && slices.Equal(a.Params, b.Params) && a.Ret == b.Ret
}

func sameSigs(a, b []Sig) bool { return slices.EqualFunc(a, b, sameSig) }

// wantOver holds a text without a fault against its signatures over a table.
func wantOver(t *testing.T, text string, table shape.Table, want ...Sig) {
	t.Helper()
	got, at, e := Sigs(mustParse(t, text), table)
	if !sameSigs(got, want) || at != 0 || e != api.OK {
		t.Errorf("P12.1: %q:\n got %+v, error %d at %d\nwant %+v", text, got, e, at, want)
	}
}

// wantSigs holds a text without a fault against its signatures over its own types.
func wantSigs(t *testing.T, text string, want ...Sig) {
	t.Helper()
	wantOver(t, text, mustTable(t, text), want...)
}

// wantFaultOver holds a text over a table against an error whose place is marked by an @.
func wantFaultOver(t *testing.T, text string, table shape.Table, want api.Errno) {
	t.Helper()
	if strings.Count(text, "@") != 1 {
		t.Fatalf("%q must have one @", text)
	}
	place := strings.Index(text, "@")
	got, at, e := Sigs(mustParse(t, strings.Replace(text, "@", "", 1)), table)
	if at != place || e != want {
		t.Errorf("P12.1: %q: error %d at %d, want %d at %d", text, e, at, want, place)
	}
	if len(got) > 0 {
		t.Errorf("P12.1: %q: beside error %d stands %+v", text, e, got)
	}
}

// wantFault holds a text over its own types against an error whose place is marked by an @.
func wantFault(t *testing.T, text string, want api.Errno) {
	t.Helper()
	wantFaultOver(t, text, mustTable(t, strings.Replace(text, "@", "", 1)), want)
}

// types has a type of each sort, and one more: of the numbers 0 to 5.
const types = "type o own { n, d[n] } where 0 <= n; type c cell { v }; type r counted n { n, v }; type m lock l { l, v }; type g guard m; type p own; "

// example is the chapter's.
const example = "type vec own { len, cap, d[cap] } where 0 <= len, len <= cap; fn get(v: &vec, i: int) -> int { n = v[0]; return n; }"

func TestP121Example(t *testing.T) {
	wantSigs(t, example, Sig{"get", []Param{{"v", Ref, 0}, {"i", Int, 0}}, Param{Mode: Int}})
	wantFault(t, "type vec own; type cel cell { v }; fn f(a: &cel, b: @&cel) { }", api.ErrParam)
}

// TestP121Modes: each mode of a parameter, of a type of each sort, and each one of a result.
func TestP121Modes(t *testing.T) {
	wantSigs(t, "")
	wantSigs(t, types)
	wantSigs(t, "fn f() { }", Sig{Name: "f"})
	wantSigs(t, "fn f(a: int) { }", Sig{Name: "f", Params: []Param{{"a", Int, 0}}})
	wantSigs(t, "fn f() -> int { }", Sig{Name: "f", Ret: Param{Mode: Int}})
	wantSigs(t, types+"fn f(a: int) -> int { }", Sig{"f", []Param{{"a", Int, 0}}, Param{Mode: Int}})
	for number, name := range []string{"o", "c", "r", "m", "g", "p"} {
		for text, mode := range map[string]Mode{"own ": Own, "own\n": Own, "&": Ref, "& ": Ref, "&mut ": Mut, "& mut\n": Mut, "&#\nmut#\n": Mut} {
			wantSigs(t, types+"fn f(a: "+text+name+") { }", Sig{Name: "f", Params: []Param{{"a", mode, number}}})
			wantSigs(t, types+"fn f(a: int, b: "+text+name+", c: int) -> int { }", Sig{"f", []Param{{"a", Int, 0}, {"b", mode, number}, {"c", Int, 0}}, Param{Mode: Int}})
		}
		ret := Param{Mode: Own, Type: number}
		wantSigs(t, types+"fn f() -> own "+name+" { }", Sig{Name: "f", Ret: ret})
		// A result may be of a type that a parameter names, of whatever sort.
		for text, mode := range map[string]Mode{"own ": Own, "&": Ref, "&mut ": Mut} {
			wantSigs(t, types+"fn f(a: "+text+name+") -> own "+name+" { }", Sig{"f", []Param{{"a", mode, number}}, ret})
			wantSigs(t, types+"fn f(a: int, b: int, c: "+text+name+", d: &o) -> own "+name+" { }fn g()->own "+name+"{}",
				Sig{"f", []Param{{"a", Int, 0}, {"b", Int, 0}, {"c", mode, number}, {"d", Ref, 0}}, ret}, Sig{Name: "g", Ret: ret})
		}
	}
}

// TestP121Params: as many as there may be, of each number, each one told in its order.
func TestP121Params(t *testing.T) {
	names := []string{"a", "b", "c", "d", "e", "f", "g", "h"}
	if len(names) != api.MaxParams {
		t.Fatalf("MaxParams is %d", api.MaxParams)
	}
	modes := []struct {
		text string
		told Param
	}{
		{"int", Param{Mode: Int}}, {"own p", Param{Mode: Own, Type: 5}}, {"&o", Param{Mode: Ref}}, {"&mut p", Param{Mode: Mut, Type: 5}}, {"own o", Param{Mode: Own}},
	}
	for many := range len(names) + 1 {
		for first := range modes {
			var params []string
			want := Sig{Name: "f", Ret: Param{Mode: Own, Type: 1}}
			for i, name := range names[:many] {
				mode := modes[(first+i)%len(modes)]
				params = append(params, name+": "+mode.text)
				mode.told.Name = name
				want.Params = append(want.Params, mode.told)
			}
			wantSigs(t, types+"fn f("+strings.Join(params, ", ")+") -> own c { }", want)
		}
	}
	// One of each sort, in both orders.
	wantSigs(t, types+"fn f(a: &o, b: &mut c, c: own r, d: int, e: &m, f: own g, g: &mut p, h: &o) { } fn g(h: &mut o, g: own p, f: &g, e: own m, d: int, c: &mut r, b: &c, a: own o) -> int { }",
		Sig{Name: "f", Params: []Param{{"a", Ref, 0}, {"b", Mut, 1}, {"c", Own, 2}, {"d", Int, 0}, {"e", Ref, 3}, {"f", Own, 4}, {"g", Mut, 5}, {"h", Ref, 0}}},
		Sig{"g", []Param{{"h", Mut, 0}, {"g", Own, 5}, {"f", Ref, 4}, {"e", Own, 3}, {"d", Int, 0}, {"c", Mut, 2}, {"b", Ref, 1}, {"a", Own, 0}}, Param{Mode: Int}})
}

// TestP121SortOwn: of a type of the sort own there may be many parameters, of each mode.
func TestP121SortOwn(t *testing.T) {
	modes := map[string]Mode{"own ": Own, "&": Ref, "&mut ": Mut}
	for one, oneMode := range modes {
		for other, otherMode := range modes {
			for number, name := range map[int]string{0: "o", 5: "p"} {
				wantSigs(t, types+"fn f(a: "+one+name+", b: "+other+name+") { }", Sig{Name: "f", Params: []Param{{"a", oneMode, number}, {"b", otherMode, number}}})
				wantSigs(t, types+"fn f(a: "+one+name+", b: int, c: "+other+name+", d: "+one+name+") -> own "+name+" { }",
					Sig{"f", []Param{{"a", oneMode, number}, {"b", Int, 0}, {"c", otherMode, number}, {"d", oneMode, number}}, Param{Mode: Own, Type: number}})
			}
		}
	}
}

// TestP121Apart: what is no parameter of the same type ahead in the same function doesn't count, of no sort.
func TestP121Apart(t *testing.T) {
	// The type 0 is of a sort that clashes, and so is an Int's number.
	const cell = "type c cell { v }; type k cell { v }; "
	wantSigs(t, cell+"fn f(x: int, a: &c, y: int) { }", Sig{Name: "f", Params: []Param{{"x", Int, 0}, {"a", Ref, 0}, {"y", Int, 0}}})
	wantSigs(t, cell+"fn f(a: own c, b: own k) { }", Sig{Name: "f", Params: []Param{{"a", Own, 0}, {"b", Own, 1}}})
	wantSigs(t, cell+"fn f(a: &c) -> own c { } fn g(a: &c) { }", Sig{"f", []Param{{"a", Ref, 0}}, Param{Mode: Own}}, Sig{Name: "g", Params: []Param{{"a", Ref, 0}}})
	wantSigs(t, cell+"fn f() -> own c { } fn g(a: &mut c) { }", Sig{Name: "f", Ret: Param{Mode: Own}}, Sig{Name: "g", Params: []Param{{"a", Mut, 0}}})
	// A lock and its guards are two types.
	wantSigs(t, types+"type h guard m; fn f(a: &m, b: own g, c: &h) { }", Sig{Name: "f", Params: []Param{{"a", Ref, 3}, {"b", Own, 4}, {"c", Ref, 6}}})
}

// TestP121Several: functions with types between them, ahead of and behind what names them, and names that say nothing to one another.
func TestP121Several(t *testing.T) {
	wantSigs(t, `
fn vec_new(n: int) -> own vec { if n < 0 { abort; } p = new 3; return p; }
type vec own { len, cap, d[cap] } where 0 <= len, len <= cap;
fn vec_push(v: &mut vec, x: int) -> int { n = v[0]; vec_push(v); return 1; }
fn vec_del(v: own vec) { d = v[2]; free d; free v; }
fn mtx_lock(m: &mtx) -> own grd { lock m[0]; return m; }
type rc counted n { n, v };
type mtx lock l { l, v };
fn rc_dup(r: &rc) -> own rc { n = r[0]; r[0] = n + 1; return r; }
fn last() { while 1 < 2 { x = last(); } fork main(x, 1); }
type grd guard mtx;
`,
		Sig{"vec_new", []Param{{"n", Int, 0}}, Param{Mode: Own}},
		Sig{"vec_push", []Param{{"v", Mut, 0}, {"x", Int, 0}}, Param{Mode: Int}},
		Sig{Name: "vec_del", Params: []Param{{"v", Own, 0}}},
		Sig{"mtx_lock", []Param{{"m", Ref, 2}}, Param{Mode: Own, Type: 3}},
		Sig{"rc_dup", []Param{{"r", Ref, 1}}, Param{Mode: Own, Type: 1}},
		Sig{Name: "last"})
	// A function, its parameters, a type and its fields may have one name, and functions may too: that is asked elsewhere.
	wantSigs(t, "type a own { a }; type b cell { a, b }; fn a(a: &a, b: own b) -> own a { b = a; } fn a(a: int) { } fn b(b: &b, c: &a) { }",
		Sig{"a", []Param{{"a", Ref, 0}, {"b", Own, 1}}, Param{Mode: Own}},
		Sig{Name: "a", Params: []Param{{"a", Int, 0}}},
		Sig{Name: "b", Params: []Param{{"b", Ref, 1}, {"c", Ref, 0}}})
}

// TestP121OtherTable: the table tells which types there are, not the text.
func TestP121OtherTable(t *testing.T) {
	const fn = "fn f(a: &c, b: int, c: &mut o) -> own p { }"
	want := func(c, o, p int) Sig {
		return Sig{"f", []Param{{"a", Ref, c}, {"b", Int, 0}, {"c", Mut, o}}, Param{Mode: Own, Type: p}}
	}
	wantOver(t, fn, mustTable(t, types), want(1, 0, 5))
	wantOver(t, "type z own; type c own; "+fn+types[len("type o own { n, d[n] } where 0 <= n; "):], mustTable(t, "type p own; type x own; type o cell { v }; type c own;"), want(3, 2, 0))
	wantOver(t, "fn f(a: int) -> int { } type a own; fn g() { }", nil, Sig{"f", []Param{{"a", Int, 0}}, Param{Mode: Int}}, Sig{Name: "g"})
	// A type that the text has, and one whose sort is another one there.
	wantFaultOver(t, "type c own; fn f(a: @&c) { }", nil, api.ErrName)
	wantFaultOver(t, "type c own; fn f(a: int) -> @own c { }", shape.Table{}, api.ErrName)
	wantFaultOver(t, "type c own; fn f(a: &c, b: @&c) { }", mustTable(t, types), api.ErrParam)
	wantOver(t, "type c cell { v }; fn f(a: &c, b: &c) { }", mustTable(t, "type c own;"), Sig{Name: "f", Params: []Param{{"a", Ref, 0}, {"b", Ref, 0}}})
	// What another text's functions are is nothing to these.
	refused, _, _ := shape.Types(mustParse(t, "type a own; type b own; type a own;"))
	wantFaultOver(t, "fn f(a: @&b) { }", refused, api.ErrName)
}

// TestP121TableByHand: tables that no text has.
func TestP121TableByHand(t *testing.T) {
	const fn = "fn f(a: &a, b: own b, c: &mut a) -> own b { }"
	sig := Sig{"f", []Param{{"a", Ref, 1}, {"b", Own, 0}, {"c", Mut, 1}}, Param{Mode: Own}}
	// Of types with one name it is the first one whose number and sort count.
	twice := shape.Table{{Name: "b", Sort: shape.Cell}, {Name: "a"}, {Name: "a", Sort: shape.Lock}, {Name: "b"}, {Name: "a", Sort: shape.Guard}}
	wantOver(t, fn, twice, sig)
	wantFaultOver(t, "fn f(a: &a, b: own b, c: @&mut a) -> own b { }", twice[2:], api.ErrParam)
	wantFaultOver(t, "fn f(a: &a, b: @own b, c: &mut a) -> own b { }", twice[1:3], api.ErrName)
	wantFaultOver(t, "fn f(a: @&a, b: own b) { }", twice[:1], api.ErrName)
	// Only the sort own is the sort own, and nothing else of a type is looked at.
	for _, sort := range []shape.Sort{-1 << 63, -1, shape.Cell, shape.Counted, shape.Lock, shape.Guard, shape.Guard + 1, 1<<63 - 1} {
		for _, of := range []int{-1 << 63, -1, 0, 1, 7, 1<<63 - 1} {
			table := shape.Table{{Name: "x"}, {Name: "a", Sort: sort, Of: of, Fields: []shape.Field{{Name: "b", Size: of}}}, {Name: "b", Sort: shape.Own, Of: of}}
			wantFaultOver(t, "fn f(a: &a, b: @&a) { }", table, api.ErrParam)
			wantOver(t, "fn f(a: int, b: &a, c: &b, d: own b) { }", table, Sig{Name: "f", Params: []Param{{"a", Int, 0}, {"b", Ref, 1}, {"c", Ref, 2}, {"d", Own, 2}}})
		}
	}
	// Names that no text has are none that a text's parameter names.
	wantFaultOver(t, "fn f(a: @&a) { }", shape.Table{{Name: ""}, {Name: "A"}, {Name: "a "}, {Name: " a"}, {Name: "a\x00"}, {Name: "aa"}, {Name: "&a"}}, api.ErrName)
	wantOver(t, "fn f() { }", shape.Table{{Name: ""}, {Name: ""}}, Sig{Name: "f"})
}

// TestP121Most: about as many functions as a tree may have, and as many types as a text has room for.
func TestP121Most(t *testing.T) {
	const fns = (api.MaxNodes - 1) / 3
	var text strings.Builder
	var want []Sig
	for i := range fns {
		want = append(want, Sig{Name: fmt.Sprintf("f%d", i)})
		fmt.Fprintf(&text, "fn f%d(){}", i)
	}
	wantSigs(t, text.String(), want...)

	text.Reset()
	const many = 800
	want = want[:0]
	for i := range many {
		fmt.Fprintf(&text, "type t%d own;", i)
	}
	ofTypes := text.String()
	for i := range 200 {
		number := many - 1 - i
		name := fmt.Sprintf("t%d", number)
		want = append(want, Sig{Name: "f", Params: []Param{{"a", Ref, number}}})
		fmt.Fprintf(&text, "fn f(a:&%s){}", name)
	}
	wantSigs(t, text.String(), want...)
	wantFault(t, text.String()+"fn f(a:@&t800){}", api.ErrName)
	wantFault(t, ofTypes+"fn f(a:&t799,@a:int){}", api.ErrTwice)
}
