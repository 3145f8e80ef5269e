package sign

import (
	"strings"
	"testing"

	"lychgate/api"
)

// atEachPlace holds a text against a fault also with other texts ahead of and behind it; those ahead have none of their own.
func atEachPlace(t *testing.T, text string, e api.Errno) {
	t.Helper()
	for _, ahead := range []string{types, types + " # a remark\n", types + "fn f() { } fn f(a: &c, b: own r) -> own c { return b; } ", "fn z(a: int, b: &m) { free b; }\n\n" + types} {
		for _, behind := range []string{"", " fn f() { }", " type y own;", " fn f(a: int, a: int, a: &w) { }", " fn f(a:int,b:int,c:int,d:int,e:int,f:int,g:int,h:int,i:int) -> own w { }"} {
			wantFault(t, ahead+text+behind, e)
		}
	}
}

func TestP121Many(t *testing.T) {
	for _, text := range []string{
		"@fn f(a: int, b: int, c: int, d: int, e: int, f: int, g: int, h: int, i: int) { }",
		"@fn f(a:&o,b:&o,c:&o,d:&o,e:&o,f:&o,g:&o,h:&o,i:&o)->int{}",
		"@fn f(a: own o, b: &mut p, c: &c, d: own r, e: &mut m, f: &g, g: int, h: int, i: own p) -> own c { }",
		"@fn f(a:int,b:int,c:int,d:int,e:int,f:int,g:int,h:int,i:int,j:int,k:int,l:int,m:int,n:int,o:int,p:int,q:int){}",
		"@fn f(a:int" + strings.Repeat(",a:int", 999) + "){}",
	} {
		atEachPlace(t, text, api.ErrMany)
	}
	// With the last one left out it may be.
	wantSigs(t, "fn f(a: int, b: int, c: int, d: int, e: int, f: int, g: int, h: int) { }",
		Sig{Name: "f", Params: []Param{{"a", Int, 0}, {"b", Int, 0}, {"c", Int, 0}, {"d", Int, 0}, {"e", Int, 0}, {"f", Int, 0}, {"g", Int, 0}, {"h", Int, 0}}})
	wantFault(t, "fn f(a: int, b: int, c: int, d: int, e: int, f: int, g: int, @a: int) { }", api.ErrTwice)
}

func TestP121Twice(t *testing.T) {
	for _, text := range []string{
		"fn f(a: int, @a: int) { }",
		"fn f(a: &o, @a: &o) -> int { }",
		"fn f(a: own o, @a: int) { }",
		"fn f(a: int, @a: &mut p) { }",
		"fn f(f: int, @f: int) { }",
		"fn f(a: int, b: &o, @a: int, c: int) { }",
		"fn f(a: int, b: &o, @b: int, c: int) { }",
		"fn f(a: int, b: &o, c: int, @c: int) { }",
		"fn f(a: int, b: int, c: int, d: int, e: int, f: int, g: int, @g: &c) { }",
		"fn f(a: int, b: int, c: int, d: int, e: int, f: int, g: int, @a: int) { }",
		"fn f(\n\n#\na#\n:#\nint#\n,#\n@a#\n: & #\nmut o) { }",
	} {
		atEachPlace(t, text, api.ErrTwice)
	}
}

func TestP121Name(t *testing.T) {
	for _, mode := range []string{"own ", "&", "&mut ", "& ", "& mut ", "own\n#\n"} {
		for _, name := range []string{"w", "oo", "f", "a", "_", "d", "n", "int1", "mutx"} {
			for _, text := range []string{
				"fn f(a: @MODE) { }",
				"fn f(a:@MODE,b:int)->int{}",
				"fn f(a: int, b: @MODE) { }",
				"fn f(a: &o, b: own c, c: @MODE) -> own o { }",
				"fn f(a: int, b: int, c: int, d: int, e: int, f: int, g: int, h: @MODE) { }",
			} {
				atEachPlace(t, strings.Replace(text, "MODE", mode+name, 1), api.ErrName)
			}
		}
	}
}

func TestP121ResultName(t *testing.T) {
	for _, text := range []string{
		"fn f() -> @own w { }",
		"fn f()->@own w{}",
		"fn f() -> @own f { }",
		"fn f(a: int) -> @own a { }",
		"fn f(a: &o, b: own c) -> @own n { return b; }",
		"fn f(a: int, b: int, c: int, d: int, e: int, f: int, g: int, h: int) -> @own w { }",
		"fn f() ->\n#\n\n@own#\nw { }",
	} {
		atEachPlace(t, text, api.ErrName)
	}
}

// TestP121Param: of a type of another sort than own one parameter, whatever the modes and what stands between.
func TestP121Param(t *testing.T) {
	for _, name := range []string{"c", "r", "m", "g"} {
		for _, one := range []string{"own ", "&", "&mut "} {
			for _, other := range []string{"own ", "&", "&mut "} {
				for _, text := range []string{
					"fn f(a: ONE, b: @OTHER) { }",
					"fn f(a:ONE,b:@OTHER)->own " + name + "{}",
					"fn f(x: int, y: &o, a: ONE, z: int, b: @OTHER, c: own o) -> int { }",
					"fn f(a: ONE, b: int, c: int, d: int, e: int, f: int, g: own p, h: @OTHER) { }",
				} {
					text = strings.Replace(text, "ONE", one+name, 1)
					atEachPlace(t, strings.Replace(text, "OTHER", other+name, 1), api.ErrParam)
				}
			}
		}
	}
}

// TestP121FirstOfFn: of two faults of one function the one is told that the promise names first.
func TestP121FirstOfFn(t *testing.T) {
	for _, c := range []struct {
		text string
		e    api.Errno
	}{
		// ErrMany is ahead of all.
		{"@fn f(a:int,a:int,c:int,d:int,e:int,f:int,g:int,h:int,i:int) { }", api.ErrMany},
		{"@fn f(a:&w,b:int,c:int,d:int,e:int,f:int,g:int,h:int,i:int) { }", api.ErrMany},
		{"@fn f(a:&c,b:&c,c:int,d:int,e:int,f:int,g:int,h:int,i:int) { }", api.ErrMany},
		{"@fn f(a:int,b:int,c:int,d:int,e:int,f:int,g:int,h:int,i:int) -> own w { }", api.ErrMany},
		// Of one parameter first its name, then its type.
		{"fn f(a: int, @a: &w) { }", api.ErrTwice},
		{"fn f(a: &c, @a: &c) { }", api.ErrTwice},
		{"fn f(a: own m, @a: &mut m) -> own w { }", api.ErrTwice},
		// The parameters one behind the other.
		{"fn f(a: @&w, a: int) { }", api.ErrName},
		{"fn f(a: int, b: @&w, a: int) { }", api.ErrName},
		{"fn f(a: int, @a: int, b: &w) { }", api.ErrTwice},
		{"fn f(a: int, @a: &w, b: &w) { }", api.ErrTwice},
		{"fn f(a: @&w, b: &x) { }", api.ErrName},
		{"fn f(a: @&w, b: &w) { }", api.ErrName},
		{"fn f(a: &c, b: @&c, b: int) { }", api.ErrParam},
		{"fn f(a: &c, b: @&c, a: &c) { }", api.ErrParam},
		{"fn f(a: &c, b: @&c, d: &c) { }", api.ErrParam},
		{"fn f(a: &c, b: @&c, d: &w) { }", api.ErrParam},
		{"fn f(a: &c, b: @&w, d: &c) { }", api.ErrName},
		{"fn f(a: &c, b: &r, d: @&r, e: &c) { }", api.ErrParam},
		{"fn f(a: &c, b: &r, d: @&c, e: &r) { }", api.ErrParam},
		// Then the result.
		{"fn f(a: int, @a: int) -> own w { }", api.ErrTwice},
		{"fn f(a: @&w) -> own w { }", api.ErrName},
		{"fn f(a: &c, b: @&c) -> own w { }", api.ErrParam},
	} {
		atEachPlace(t, c.text, c.e)
	}
}

// TestP121FirstFn: of two functions with faults the first one's is told, whatever the promise names first.
func TestP121FirstFn(t *testing.T) {
	for _, c := range []struct {
		text string
		e    api.Errno
	}{
		{"fn f() -> @own w { } fn f(a:int,b:int,c:int,d:int,e:int,f:int,g:int,h:int,i:int) { }", api.ErrName},
		{"fn f() -> @own w { } fn g(a: int, a: int) { }", api.ErrName},
		{"fn f() -> @own w { } fn g(a: &w) { }", api.ErrName},
		{"fn f(a: &c, b: @&c) { } fn g(a: int, a: int) { }", api.ErrParam},
		{"fn f(a: &c, b: @&c) { } type x own; fn g(a: &w) { }", api.ErrParam},
		{"fn f(a: @&w) { } fn g(a: int, a: int) { }", api.ErrName},
		{"fn f(a: @&w) { } fn g(a:int,b:int,c:int,d:int,e:int,f:int,g:int,h:int,i:int) { }", api.ErrName},
		{"fn f(a: int, @a: int) { } fn f(a:int,b:int,c:int,d:int,e:int,f:int,g:int,h:int,i:int) { }", api.ErrTwice},
		{"@fn f(a:int,b:int,c:int,d:int,e:int,f:int,g:int,h:int,i:int) { } fn g() -> own w { }", api.ErrMany},
		{"fn e() { } fn f(a: int) -> int { } fn f() -> @own w { } fn g(a: &v) { }", api.ErrName},
		{"fn e(a: &c) { } fn f(b: &c) -> own c { } type x own; fn f(a: own c, b: &r, c: @own r) { } fn g() -> own w { }", api.ErrParam},
	} {
		atEachPlace(t, c.text, c.e)
	}
}

// TestP121Blocks: what stands in a function's block is no part of its signature.
func TestP121Blocks(t *testing.T) {
	wantSigs(t, types+"fn f(a: &c) -> own c { b = &mut a; d = &a; a = new 3; e = array a; f(a, b, 1); x = w(a, a); if a < b { return a; } else { while w < 1 { fork w(a, a); } } lock w[1]; unlock a[0]; free w; return w; }",
		Sig{"f", []Param{{"a", Ref, 1}}, Param{Mode: Own, Type: 1}})
}
