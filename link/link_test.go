package link

import (
	"fmt"
	"reflect"
	"slices"
	"strings"
	"testing"

	"lychgate/api"
	"lychgate/code"
	"lychgate/syntax"
)

func mustParse(t *testing.T, text string) syntax.Node {
	t.Helper()
	n, at, e := syntax.Parse(text)
	if e != api.OK {
		t.Fatalf("%q isn't read: error %d at %d", text, e, at)
	}
	return n
}

// sameInstr: are they the same in all fields? An empty list may be nil or not.
func sameInstr(a, b code.Instr) bool {
	if !slices.Equal(a.Args, b.Args) {
		return false
	}
	a.Args, b.Args = nil, nil
	return reflect.DeepEqual(a, b)
}

func sameCode(a, b code.Code) bool {
	return a.Name == b.Name && slices.Equal(a.Params, b.Params) && slices.EqualFunc(a.List, b.List, sameInstr)
}

func sameImage(a, b Image) bool {
	return a.Libs == b.Libs && a.Main == b.Main && slices.EqualFunc(a.Codes, b.Codes, sameCode)
}

// lowered: the codes of the functions among the kids of trees, one behind the other.
func lowered(trees ...syntax.Node) []code.Code {
	var codes []code.Code
	for _, tree := range trees {
		for _, kid := range tree.Kids {
			if kid.Kind == syntax.Fn {
				codes = append(codes, code.Lower(kid))
			}
		}
	}
	return codes
}

// wantImage holds two texts that can be linked against the numbers of their image, whose codes are those of all functions. It tells the image.
func wantImage(t *testing.T, libs, client string, many, main int) Image {
	t.Helper()
	a, b := mustParse(t, libs), mustParse(t, client)
	m, at, is, e := Link(a, b)
	if at != 0 || is || e != api.OK {
		t.Fatalf("P8.1: %q and %q: error %d at %d, %v; want none", libs, client, e, at, is)
	}
	if want := (Image{Codes: lowered(a, b), Libs: many, Main: main}); !sameImage(m, want) {
		t.Fatalf("P8.1: %q and %q:\n got %v\nwant %v", libs, client, m, want)
	}
	if f := m.Codes[m.Main]; f.Name != "main" || len(f.Params) > 0 || m.Main < m.Libs {
		t.Fatalf("P8.1: %q and %q: main is %v", libs, client, f)
	}
	return m
}

// wantFault holds two texts against an error whose place is marked by an @ in one of them.
func wantFault(t *testing.T, libs, client string, want api.Errno) {
	t.Helper()
	if strings.Count(libs+client, "@") != 1 {
		t.Fatalf("%q and %q must have one @", libs, client)
	}
	wantIs := strings.Contains(client, "@")
	wantAt := max(strings.Index(libs, "@"), strings.Index(client, "@"))
	a, b := mustParse(t, strings.Replace(libs, "@", "", 1)), mustParse(t, strings.Replace(client, "@", "", 1))
	m, at, is, e := Link(a, b)
	if at != wantAt || is != wantIs || e != want {
		t.Errorf("P8.1: %q and %q: error %d at %d, %v; want %d at %d, %v", libs, client, e, at, is, want, wantAt, wantIs)
	}
	if !sameImage(m, Image{}) {
		t.Errorf("P8.1: %q and %q: beside an error stands %v", libs, client, m)
	}
}

func TestP81Example(t *testing.T) {
	m := wantImage(t, "fn f() { }", "fn main() { f(); }", 1, 1)
	want := []code.Code{
		{Name: "f", List: []code.Instr{{Op: code.Ret, At: 7}}},
		{Name: "main", List: []code.Instr{{Op: code.Call, At: 12, Y: "f"}, {Op: code.Ret, At: 10}}},
	}
	if !slices.EqualFunc(m.Codes, want, sameCode) {
		t.Errorf("P8.1: the chapter's example is %v, want %v", m.Codes, want)
	}
	wantFault(t, "fn f() { }", "fn main() { @f(1); }", api.ErrArity)
}

// TestP81Images: how many are of libs, and where main is.
func TestP81Images(t *testing.T) {
	const others = "fn x(){free p;}fn y(a:int){x();}"
	for _, c := range []struct {
		libs, client string
		many, main   int
	}{
		{"", "fn main(){}", 0, 0},
		{"type t own;", "fn main(){}", 0, 0},
		{"type t own;", "type u own;fn main(){}type w own;", 0, 0},
		{"", "fn u(){}fn main(){}", 0, 1},
		{"", "fn main(){}fn u(){}", 0, 0},
		{"", "fn u(){}fn main(){}fn w(a:int){}", 0, 1},
		{"fn f(){}", "fn main(){}", 1, 1},
		{"fn f(){}fn g(){}fn h(){}", "fn u(){}fn w(){}fn main(){}fn z(){}", 3, 5},
		{"type t own;fn f(){}type u own;type w own;fn g(){}type z own;", "fn w(){}type t own;fn main(){}", 2, 3},
		{"type main own;fn f(){}", "type f own;fn main(){}", 1, 1},
		{"type f own;type f own;fn f(){}", "fn main(){}", 1, 1},
		{"fn f(main:int){main=f(main);}", "fn u(f:int){f=f(f);}fn main(){f=f(1);}", 1, 2},
		{others, "fn main(){y(1);x();}", 2, 2},
		{others, "fn main()->int{return 3;}", 2, 2},
		{others, "fn main()->own t{}", 2, 2},
	} {
		wantImage(t, c.libs, c.client, c.many, c.main)
	}
}

// placed: the statement in each place that a statement may have, within blocks and outside of them, with the text around it.
func placed(statement string) []string {
	places := []string{
		"%s",
		"abort;%s",
		"return;%s",
		"%sabort;",
		"if 1<2{%s}",
		"if 1<2{}else{%s}",
		"if 1<2{abort;}else{abort;%s}abort;",
		"while 1<2{%s}",
		"while 1<2{abort;%sfree p;}",
		"while 1<2{}%s",
		"if 1<2{while x==2{%s}}",
		"if 1<2{}else{while x==2{}%s}",
		"while x<=2{if 1<x{}else{%s}}",
		strings.Repeat("while 1<2{", api.MaxNest-1) + "%s" + strings.Repeat("}", api.MaxNest-1),
	}
	for i, place := range places {
		places[i] = fmt.Sprintf(place, statement)
	}
	return places
}

// TestP81Asks: each form of a Call and of a Fork, wherever it stands, in a function of libs and in one of the client.
func TestP81Asks(t *testing.T) {
	for _, c := range []struct {
		form   string
		callee string // whose text stands on the side on which it is looked for
	}{
		{"%s();", "fn %s(){}"},
		{"x=%s();", "fn %s()->int{}"},
		{"%s(1);", "fn %s(a:int){}"},
		{"x=%s(y,x+1);", "fn %s(a:int,b:own t){}"},
		{"%s(1,2,3,4,5,6,7,8);", "fn %s(a:int,b:int,c:int,d:int,e:int,f:int,g:int,h:int){}"},
		{"%s(1,2,3,4,5,6,7,8,9,x,x);", "fn %s(a:int,a:int,a:int,a:int,a:int,a:int,a:int,a:int,a:int,a:int,a:int){}"},
	} {
		for _, fork := range []bool{false, true} {
			if fork && strings.HasPrefix(c.form, "x=") {
				continue
			}
			ask := "@" + fmt.Sprintf(c.form, "k")
			if fork {
				ask = "@fork " + ask[1:]
			}
			callee := fmt.Sprintf(c.callee, "k")
			other := fmt.Sprintf(c.callee, "l")
			for _, body := range placed(ask) {
				holdAsk(t, body, callee, other, fork)
			}
		}
	}
}

// holdAsk: a body that asks once, for k, its place marked. The callee k may stand on one side only, and ahead of the body or behind it; other is the same by another name.
func holdAsk(t *testing.T, body, callee, other string, fork bool) {
	t.Helper()
	const main = "fn main(){}"
	f := "fn f(z:int){" + body + "}"
	clean := strings.ReplaceAll(f, "@", "")
	if fork {
		wantImage(t, other+clean, callee+main, 2, 3)
		wantImage(t, other, callee+clean+main, 1, 3)
		wantImage(t, other, main+clean+callee, 1, 1)
		wantFault(t, callee+f, main, api.ErrName)
		wantFault(t, callee, f+main, api.ErrName)
	} else {
		wantImage(t, callee+clean, other+main, 2, 3)
		wantImage(t, clean+callee, other+main, 2, 3)
		wantImage(t, callee, clean+other+main, 1, 3)
		wantFault(t, f, callee+main, api.ErrName)
		wantFault(t, "", main+f+callee, api.ErrName)
	}
	wantFault(t, other+f, main, api.ErrName)
	wantFault(t, other, main+f, api.ErrName)
	wantFault(t, f, other+main, api.ErrName)
	wantFault(t, "type k own;", "type k own;"+f+main, api.ErrName)
}

// TestP81Arity: fewer and more arguments than the function has parameters, of each form and on each side.
func TestP81Arity(t *testing.T) {
	const main = "fn main(){}"
	list := func(many int, item string) string { return strings.Join(slices.Repeat([]string{item}, many), ",") }
	for params := range 10 {
		for args := range 10 {
			callee := "fn k(" + list(params, "a:int") + "){}"
			for _, form := range []string{"@k(%s);", "@x=k(%s);", "while 1<2{if 1<2{}else{@k(%s);}}", "@fork k(%s);", "if 1<2{@fork k(%s);}"} {
				f := "fn f(){" + fmt.Sprintf(form, list(args, "x")) + "}"
				clean := strings.ReplaceAll(f, "@", "")
				fork := strings.Contains(form, "fork")
				switch {
				case fork && params == args:
					wantImage(t, clean, main+callee, 1, 1)
					wantImage(t, "", callee+clean+main, 0, 2)
				case fork:
					wantFault(t, f, main+callee, api.ErrArity)
					wantFault(t, "", callee+f+main, api.ErrArity)
				case params == args:
					wantImage(t, clean+callee, main, 2, 2)
					wantImage(t, callee, clean+main, 1, 2)
				default:
					wantFault(t, f+callee, main, api.ErrArity)
					wantFault(t, callee, f+main, api.ErrArity)
				}
			}
		}
	}
	// Parameters and arguments are counted, whatever their modes, names and forms.
	wantImage(t, "fn k(a:int,b:own t,c:&t,a:&mut t){}", "fn main(){k(1,-1,x,x-1);}", 1, 1)
	wantFault(t, "fn k(a:int,b:own t,c:&t,a:&mut t){}", "fn main(){@k(1,-1,x);}", api.ErrArity)
	wantFault(t, "fn k()->int{return 1;}", "fn main(){@x=k(x);}", api.ErrArity)
}

// TestP81Selves: functions that ask for themselves and for main.
func TestP81Selves(t *testing.T) {
	wantImage(t, "fn f(a:int){f(a);}", "fn main(){}", 1, 1)
	wantFault(t, "fn f(a:int){@fork f(a);}", "fn main(){}", api.ErrName)
	wantFault(t, "fn f(a:int){@f();}", "fn main(){}", api.ErrArity)
	wantImage(t, "", "fn w(a:int){fork w(a);}fn main(){fork main();}", 0, 1)
	wantFault(t, "", "fn w(a:int){@w(a);}fn main(){}", api.ErrName)
	wantFault(t, "", "fn w(a:int){@fork w();}fn main(){}", api.ErrArity)
	wantFault(t, "", "fn main(){@main();}", api.ErrName)
	wantFault(t, "", "fn main(){@fork main(1);}", api.ErrArity)
	wantImage(t, "fn f(){fork main();}", "fn main(){f();}", 1, 1)
	wantFault(t, "fn f(){@main();}", "fn main(){f();}", api.ErrName)
	wantImage(t, "fn f(){g();}fn g(){f();}", "fn main(){fork w();}fn w(){fork main();}", 2, 2)
}

func TestP81Twice(t *testing.T) {
	for _, c := range []struct{ libs, client string }{
		{"fn f(){}@fn f(){}", "fn main(){}"},
		{"fn f(){}fn g(){}fn h(){}@fn g(){}", "fn main(){}"},
		{"fn f(){} # fn f\n @fn  f(){}", "fn main(){}"},
		{"fn f(){}@fn f(){}fn f(){}", "fn main(){}"},
		{"fn f(){}fn g(){}@fn g(){}fn f(){}", "fn main(){}"},
		{"fn f(){}fn g(){}@fn f(){}fn g(){}", "fn main(){}"},
		{"fn f(a:int){}@fn f(){}", "fn main(){}"},
		{"fn f()->int{}type t own;@fn f(a:own t){free a;}", "fn main(){}"},
		{"fn f(){}", "@fn f(){}fn main(){}"},
		{"fn f(){}", "fn main(){}@fn f(){}"},
		{"fn f(){}", "fn main(){}@fn f(){}fn f(){}"},
		{"fn f(){}fn g(){}", "fn main(){}@fn g(){}fn f(){}"},
		{"fn f(){}", "fn main(){}fn w(){}@fn w(){}fn f(){}"},
		{"fn f(){}", "fn main(){}fn w(){}@fn f(){}fn w(){}"},
		{"", "fn w(){}fn main(){}@fn w(){}"},
		{"", "fn main(){}@fn main(){}"},
		{"", "fn main(a:int){}@fn main(){}"},
		{"", "fn main(){}@fn main(a:int){}"},
		{"fn main(){}", "@fn main(){}"},
		{"fn main(a:int){}", "fn w(){}@fn main(){}"},
		{"fn main(){}@fn main(){}", "fn w(){}"},
	} {
		wantFault(t, c.libs, c.client, api.ErrTwice)
	}
	// Names that differ, if only at their ends.
	wantImage(t, "fn f(){}fn f1(){}fn f10(){}fn _f(){}", "fn f_(){}fn main(){}fn main1(){}", 4, 5)
}

func TestP81Main(t *testing.T) {
	for _, c := range []struct{ libs, client string }{
		{"", ""},
		{"fn f(){}", ""},
		{"fn main(){}", ""},
		{"fn main(){}", "fn w(){}"},
		{"fn main(a:int){}", "fn main1(){}"},
		{"type main own;", "type main own;"},
		{"", "fn man(){}"},
		{"", "fn mai(){}fn main_(){}fn amain(){}"},
		{"", "fn main(a:int){}"},
		{"fn f(){}", "fn w(){}fn main(a:own t,b:int)->int{return b;}"},
		{"fn f(){}", "type t own;  fn w(){main=1;f();fork w();}"},
	} {
		wantFault(t, c.libs, "@"+c.client, api.ErrMain)
	}
}

// TestP81Order: of several faults the first, in the chapter's order.
func TestP81Order(t *testing.T) {
	for _, c := range []struct {
		libs, client string
		e            api.Errno
	}{
		// A name that is there twice counts ahead of all calls.
		{"fn f(){h();}@fn f(){}", "fn main(){h();}", api.ErrTwice},
		{"fn f(){g(1);}fn g(){}@fn g(){}", "fn w(){}", api.ErrTwice},
		{"fn f(){h();}", "fn main(){h();}@fn f(){}", api.ErrTwice},
		{"fn f(){h();fork h();f(1);}", "@fn f(){}", api.ErrTwice},
		{"", "fn main(){h();}fn w(){fork w(1);}@fn w(){}", api.ErrTwice},
		{"fn f(){}@fn f(){}", "fn main(){}fn main(){}", api.ErrTwice},
		// The functions of libs come ahead of those of the client.
		{"fn f(){}fn g(){@h();}", "fn main(){h();}", api.ErrName},
		{"fn f(){}fn g(){@f(1);}", "fn main(){h();}", api.ErrArity},
		{"fn f(){}fn g(){@fork f();}", "fn main(){f(1);}", api.ErrName},
		{"fn f(){}fn g(){@fork main(1);}", "fn main(){f(1);}", api.ErrArity},
		// The first function counts, and then its first instruction.
		{"fn f(){}fn g(){@f(1);}fn h(){k();}", "fn main(){}", api.ErrArity},
		{"fn f(){}fn g(){@k();}fn h(){f(1);}", "fn main(){}", api.ErrName},
		{"fn f(){}", "fn main(){@f(1);k();}", api.ErrArity},
		{"fn f(){}", "fn main(){@k();f(1);}", api.ErrName},
		{"fn f(){}", "fn main(){@fork k();f(1);}", api.ErrName},
		{"fn f(){}", "fn main(){f();x=f();@f(2);f(3);}", api.ErrArity},
		{"fn f(){}", "fn u(){f();}fn w(){@fork main(1);}fn main(){f(1);}", api.ErrArity},
		{"fn f(){}", "fn main(){if 1<2{f();@k();}else{f(1);}k();}", api.ErrName},
		{"fn f(){}", "fn main(){if 1<2{f();}else{while 1<2{@f(1);}k();}k();}", api.ErrArity},
		{"fn f(){}", "fn main(){while 1<2{}@fork f();while 1<2{k();}}", api.ErrName},
		// A name that isn't there, with another number of arguments.
		{"fn f(){}", "fn main(){@k(1);}", api.ErrName},
		{"fn f(){}", "fn main(){@fork f(1);}", api.ErrName},
		{"fn f(){@main(1);}", "fn main(){}", api.ErrName},
		// That there is no main counts last.
		{"fn f(){@h();}", "", api.ErrName},
		{"fn f(){@f(1);}", "fn main(a:int){}", api.ErrArity},
		{"fn f(){}", "fn main(a:int){@f(1);}", api.ErrArity},
		{"fn f(){}", "fn w(){@fork main();}", api.ErrName},
		{"fn f(){}@fn f(){}", "", api.ErrTwice},
		{"", "fn w(){}@fn w(){}", api.ErrTwice},
		{"", "fn main(a:int){@fork main();}", api.ErrArity},
		{"", "@fn main(a:int){fork main(1);}", api.ErrMain},
		{"fn main(){}", "fn w(){@fork main();}", api.ErrName},
		{"fn main(){}", "@fn w(){main();}", api.ErrMain},
	} {
		wantFault(t, c.libs, c.client, c.e)
	}
}

// TestP81Long: as many functions, and as many calls, as a tree of layer 2 may have.
func TestP81Long(t *testing.T) {
	const many, calls = (api.MaxNodes - 1) / 3, (api.MaxNodes - 4) / 2
	var libs strings.Builder
	for i := range many {
		fmt.Fprintf(&libs, "fn a%d(){}", i)
	}
	last := fmt.Sprintf("a%d();", many-1)
	m := wantImage(t, libs.String(), "fn main(){"+strings.Repeat(last, calls-1)+"}", many, many)
	for i := range many {
		wantFind(t, m, fmt.Sprintf("a%d", i), found{i, true, true})
	}
	wantFault(t, libs.String(), "fn main(){"+strings.Repeat(last, calls-1)+"@b();}", api.ErrName)
	wantFault(t, libs.String(), "fn main(){"+strings.Repeat("a0();", calls-2)+"@a1(2);}", api.ErrArity)
	wantFault(t, libs.String(), "fn main(){}@"+fmt.Sprintf("fn a%d(){}", many-1), api.ErrTwice)
}
