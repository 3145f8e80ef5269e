package code

import (
	"math"
	"reflect"
	"slices"
	"strings"
	"testing"

	"lychgate/api"
	"lychgate/syntax"
)

// ahead of a body stands this text, so that its places begin at bodyAt and its block's at blockAt.
const (
	ahead   = "fn f(){"
	blockAt = len(ahead) - 1
	bodyAt  = len(ahead)
)

func mustParse(t *testing.T, text string) syntax.Node {
	t.Helper()
	n, at, e := syntax.Parse(text)
	if e != api.OK {
		t.Fatalf("%q isn't read: error %d at %d", text, e, at)
	}
	return n
}

// lower: the code of a text's only function.
func lower(t *testing.T, text string) Code {
	t.Helper()
	return Lower(mustParse(t, text).Kids[0])
}

// sameInstr: are they the same in all fields? An empty list may be nil or not.
func sameInstr(a, b Instr) bool {
	if !slices.Equal(a.Args, b.Args) {
		return false
	}
	a.Args, b.Args = nil, nil
	return reflect.DeepEqual(a, b)
}

func sameCode(a, b Code) bool {
	return a.Name == b.Name && slices.Equal(a.Params, b.Params) && slices.EqualFunc(a.List, b.List, sameInstr)
}

// wantBody holds the code of a body against these instructions, whose places are those in the body, and the last Ret.
func wantBody(t *testing.T, body string, want ...Instr) {
	t.Helper()
	list := slices.Clone(want)
	for i := range list {
		list[i].At += bodyAt
	}
	list = append(list, Instr{Op: Ret, At: blockAt})
	if c := lower(t, ahead+body+"}"); !sameCode(c, Code{Name: "f", List: list}) {
		t.Errorf("P7.1: %q:\n got %v\nwant f, no params, %v", body, c, list)
	}
}

// wantStatement holds a statement without a block against its instruction: alone, behind and ahead of another one, and in blocks.
func wantStatement(t *testing.T, text string, want Instr) {
	t.Helper()
	if want.At != 0 {
		t.Fatalf("%q: a statement begins at its place", text)
	}
	wantBody(t, text, want)
	behind := want
	behind.At = 6
	wantBody(t, "abort;"+text, Instr{Op: Abort}, behind)
	wantBody(t, text+"abort;", want, Instr{Op: Abort, At: len(text)})
	one, two := Term{Num: 1}, Term{Num: 2}
	behind.At = 10
	wantBody(t, "while 1<2{"+text+"}", Instr{Op: Branch, X: "<", A: one, B: two, To: 3}, behind, Instr{Op: Jump})
	behind.At = 7
	other := behind
	other.At += len(text) + 6
	wantBody(t, "if 1<2{"+text+"}else{"+text+"}", Instr{Op: Branch, X: "<", A: one, B: two, To: 3}, behind, Instr{Op: Jump, To: 4}, other)
}

// TestP71Rows: each row of the chapter's table, of a statement without a block.
func TestP71Rows(t *testing.T) {
	for _, row := range []struct {
		text string
		want Instr
	}{
		{"x=y;", Instr{Op: Set, X: "x", A: Term{"y", 0}}},
		{"x=x;", Instr{Op: Set, X: "x", A: Term{"x", 0}}},
		{"x=0;", Instr{Op: Set, X: "x"}},
		{"x=5;", Instr{Op: Set, X: "x", A: Term{"", 5}}},
		{"x=-5;", Instr{Op: Set, X: "x", A: Term{"", -5}}},
		{"x=y+2;", Instr{Op: Set, X: "x", A: Term{"y", 2}}},
		{"x=y-2;", Instr{Op: Set, X: "x", A: Term{"y", -2}}},
		{"x=y+0;", Instr{Op: Set, X: "x", A: Term{"y", 0}}},
		{"x=1099511627776;", Instr{Op: Set, X: "x", A: Term{"", api.MaxNum}}},
		{"x=y-1099511627776;", Instr{Op: Set, X: "x", A: Term{"y", -api.MaxNum}}},
		{"x=&y;", Instr{Op: Set, X: "x", A: Term{"y", 0}}},
		{"x=& mut y;", Instr{Op: Set, X: "x", A: Term{"y", 0}}},
		{"x=y+z;", Instr{Op: Sum, X: "x", A: Term{"y", 0}, B: Term{"z", 0}}},
		{"x=z+y;", Instr{Op: Sum, X: "x", A: Term{"z", 0}, B: Term{"y", 0}}},
		{"x=y+y;", Instr{Op: Sum, X: "x", A: Term{"y", 0}, B: Term{"y", 0}}},
		{"x=y-z;", Instr{Op: Less, X: "x", A: Term{"y", 0}, B: Term{"z", 0}}},
		{"x=z-x;", Instr{Op: Less, X: "x", A: Term{"z", 0}, B: Term{"x", 0}}},
		{"x=new 0;", Instr{Op: New, X: "x"}},
		{"x=new 3;", Instr{Op: New, X: "x", A: Term{"", 3}}},
		{"x=array n;", Instr{Op: Array, X: "x", A: Term{"n", 0}}},
		{"x=p[0];", Instr{Op: Load, X: "x", Y: "p"}},
		{"x=p[3];", Instr{Op: Load, X: "x", Y: "p", A: Term{"", 3}}},
		{"x=p[i-1];", Instr{Op: Load, X: "x", Y: "p", A: Term{"i", -1}}},
		{"p[0]=0;", Instr{Op: Store, Y: "p"}},
		{"p[i]=7;", Instr{Op: Store, Y: "p", A: Term{"i", 0}, B: Term{"", 7}}},
		{"p[3]=v+1;", Instr{Op: Store, Y: "p", A: Term{"", 3}, B: Term{"v", 1}}},
		{"free p;", Instr{Op: Free, Y: "p"}},
		{"lock p[0];", Instr{Op: Lock, Y: "p"}},
		{"lock p[12];", Instr{Op: Lock, Y: "p", A: Term{"", 12}}},
		{"unlock p[0];", Instr{Op: Unlock, Y: "p"}},
		{"unlock p[12];", Instr{Op: Unlock, Y: "p", A: Term{"", 12}}},
		{"return;", Instr{Op: Ret}},
		{"return 0;", Instr{Op: Ret, Has: true}},
		{"return -1;", Instr{Op: Ret, Has: true, A: Term{"", -1}}},
		{"return x;", Instr{Op: Ret, Has: true, A: Term{"x", 0}}},
		{"return x+4;", Instr{Op: Ret, Has: true, A: Term{"x", 4}}},
		{"abort;", Instr{Op: Abort}},
	} {
		wantStatement(t, row.text, row.want)
	}
}

// TestP71Calls: no argument and many, as a Do, as a Set and as a Fork.
func TestP71Calls(t *testing.T) {
	for _, c := range []struct {
		text string
		args []Term
	}{
		{"", nil},
		{"y", []Term{{"y", 0}}},
		{"0", []Term{{"", 0}}},
		{"x,x", []Term{{"x", 0}, {"x", 0}}},
		{"x,1,y-2,-3,g", []Term{{"x", 0}, {"", 1}, {"y", -2}, {"", -3}, {"g", 0}}},
		{strings.Repeat("a,", 400) + "b+1", append(slices.Repeat([]Term{{"a", 0}}, 400), Term{"b", 1})},
	} {
		wantStatement(t, "g("+c.text+");", Instr{Op: Call, Y: "g", Args: c.args})
		wantStatement(t, "x=g("+c.text+");", Instr{Op: Call, X: "x", Y: "g", Args: c.args})
		wantStatement(t, "fork g("+c.text+");", Instr{Op: Fork, Y: "g", Args: c.args})
	}
}

// TestP71Places: an instruction has the place of its statement, not that of a part of it.
func TestP71Places(t *testing.T) {
	wantBody(t, " x = # z;\n y;", Instr{Op: Set, At: 1, X: "x", A: Term{"y", 0}})
	wantBody(t, "  x = y - z;\n p[ i ] = 1;", Instr{Op: Less, At: 2, X: "x", A: Term{"y", 0}, B: Term{"z", 0}}, Instr{Op: Store, At: 14, Y: "p", A: Term{"i", 0}, B: Term{"", 1}})
	wantBody(t, " free  p; return  x; lock  p[0];", Instr{Op: Free, At: 1, Y: "p"}, Instr{Op: Ret, At: 10, Has: true, A: Term{"x", 0}}, Instr{Op: Lock, At: 21, Y: "p"})
	wantBody(t, " x = g( ); h( 1 ); fork g( );", Instr{Op: Call, At: 1, X: "x", Y: "g"}, Instr{Op: Call, At: 11, Y: "h", Args: []Term{{"", 1}}}, Instr{Op: Fork, At: 19, Y: "g"})
	wantBody(t, " while  x < 1  { } if  x < 1  { } ",
		Instr{Op: Branch, At: 1, X: "<", A: Term{"x", 0}, B: Term{"", 1}, To: 2}, Instr{Op: Jump, At: 1, To: 0},
		Instr{Op: Branch, At: 19, X: "<", A: Term{"x", 0}, B: Term{"", 1}, To: 4}, Instr{Op: Jump, At: 19, To: 4})
}

func TestP71Functions(t *testing.T) {
	for _, c := range []struct {
		text   string
		name   string
		at     int
		params []string
	}{
		{"fn f(){}", "f", 6, nil},
		{"\n fn  f ( ) # {\n  { }", "f", 18, nil},
		{"fn f()->int{}", "f", 11, nil},
		{"fn main()->own t{}", "main", 16, nil},
		{"fn f(x:int){}", "f", 11, []string{"x"}},
		{"fn f(b:int,a:own t,d:&t,c:& mut t)->int{}", "f", 39, []string{"b", "a", "d", "c"}},
		{"fn f(x:int,f:int,x:own x){}", "f", 25, []string{"x", "f", "x"}},
		{"fn f(a:int,b:int,c:int,d:int,e:int,f:int,g:int,h:int,i:int){}", "f", 59, []string{"a", "b", "c", "d", "e", "f", "g", "h", "i"}},
	} {
		want := Code{Name: c.name, Params: c.params, List: []Instr{{Op: Ret, At: c.at}}}
		if got := lower(t, c.text); !sameCode(got, want) {
			t.Errorf("P7.1: %q:\n got %v\nwant %v", c.text, got, want)
		}
	}
	n := mustParse(t, "fn f(x:int){free x;}type t own;fn g(y:int){abort;}")
	want := Code{Name: "g", Params: []string{"y"}, List: []Instr{{Op: Abort, At: 43}, {Op: Ret, At: 42}}}
	if got := Lower(n.Kids[2]); !sameCode(got, want) {
		t.Errorf("P7.1: of a later function:\n got %v\nwant %v", got, want)
	}
}

func TestP71Ifs(t *testing.T) {
	x, one := Term{"x", 0}, Term{"", 1}
	wantBody(t, "if x<1{y=2;}z=3;",
		Instr{Op: Branch, X: "<", A: x, B: one, To: 3}, Instr{Op: Set, At: 7, X: "y", A: Term{"", 2}}, Instr{Op: Jump, To: 3}, Instr{Op: Set, At: 12, X: "z", A: Term{"", 3}})
	wantBody(t, "if x<1{}", Instr{Op: Branch, X: "<", A: x, B: one, To: 2}, Instr{Op: Jump, To: 2})
	wantBody(t, "if x<1{}else{}", Instr{Op: Branch, X: "<", A: x, B: one, To: 2}, Instr{Op: Jump, To: 2})
	wantBody(t, "if x<=1{abort;}", Instr{Op: Branch, X: "<=", A: x, B: one, To: 3}, Instr{Op: Abort, At: 8}, Instr{Op: Jump, To: 3})
	wantBody(t, "if x==1{abort;}else{}", Instr{Op: Branch, X: "==", A: x, B: one, To: 3}, Instr{Op: Abort, At: 8}, Instr{Op: Jump, To: 3})
	wantBody(t, "if 1<x{}else{abort;}", Instr{Op: Branch, X: "<", A: one, B: x, To: 2}, Instr{Op: Jump, To: 3}, Instr{Op: Abort, At: 13})
	wantBody(t, "if x-1<y+2{free p;abort;}else{free q;return;return 0;}lock p[1];",
		Instr{Op: Branch, X: "<", A: Term{"x", -1}, B: Term{"y", 2}, To: 4}, Instr{Op: Free, At: 11, Y: "p"}, Instr{Op: Abort, At: 18}, Instr{Op: Jump, To: 7},
		Instr{Op: Free, At: 30, Y: "q"}, Instr{Op: Ret, At: 37}, Instr{Op: Ret, At: 44, Has: true}, Instr{Op: Lock, At: 54, Y: "p", A: one})
}

func TestP71Whiles(t *testing.T) {
	x, one := Term{"x", 0}, Term{"", 1}
	wantBody(t, "while x<1{}", Instr{Op: Branch, X: "<", A: x, B: one, To: 2}, Instr{Op: Jump, To: 0})
	wantBody(t, "while x==1{x=x+1;}abort;",
		Instr{Op: Branch, X: "==", A: x, B: one, To: 3}, Instr{Op: Set, At: 11, X: "x", A: Term{"x", 1}}, Instr{Op: Jump, To: 0}, Instr{Op: Abort, At: 18})
	wantBody(t, "abort;while -1<=x{free p;free q;}",
		Instr{Op: Abort}, Instr{Op: Branch, At: 6, X: "<=", A: Term{"", -1}, B: x, To: 5}, Instr{Op: Free, At: 18, Y: "p"}, Instr{Op: Free, At: 25, Y: "q"}, Instr{Op: Jump, At: 6, To: 1})
	wantBody(t, "while 1<1{while x<1{}}",
		Instr{Op: Branch, X: "<", A: one, B: one, To: 4}, Instr{Op: Branch, At: 10, X: "<", A: x, B: one, To: 3}, Instr{Op: Jump, At: 10, To: 1}, Instr{Op: Jump, To: 0})
	wantBody(t, "while 1<1{if x<1{}else{while x<x{}}}if 1<x{while 1<1{}}",
		Instr{Op: Branch, X: "<", A: one, B: one, To: 6},
		Instr{Op: Branch, At: 10, X: "<", A: x, B: one, To: 3}, Instr{Op: Jump, At: 10, To: 5},
		Instr{Op: Branch, At: 23, X: "<", A: x, B: x, To: 5}, Instr{Op: Jump, At: 23, To: 3},
		Instr{Op: Jump, To: 0},
		Instr{Op: Branch, At: 36, X: "<", A: one, B: x, To: 10},
		Instr{Op: Branch, At: 43, X: "<", A: one, B: one, To: 9}, Instr{Op: Jump, At: 43, To: 7},
		Instr{Op: Jump, At: 36, To: 10})
}

// TestP71Deep: as deep as the grammar lets blocks be, where nothing stands behind any of them but the last Ret.
func TestP71Deep(t *testing.T) {
	const deep = api.MaxNest - 1
	for _, c := range []struct {
		open string
		// where: of the statement within i others, the numbers of its Branch and its Jump, and where these go.
		where func(i int) (branch, branchTo, jump, jumpTo int)
	}{
		{"while 1<2{", func(i int) (int, int, int, int) { return i, 2*deep - i, 2*deep - 1 - i, i }},
		{"if 1<2{", func(i int) (int, int, int, int) { return i, 2*deep - i, 2*deep - 1 - i, 2*deep - i }},
		{"if 1<2{}else{", func(i int) (int, int, int, int) { return 2 * i, 2*i + 2, 2*i + 1, 2 * deep }},
	} {
		want := make([]Instr, 2*deep)
		for i := range deep {
			branch, branchTo, jump, jumpTo := c.where(i)
			at := i * len(c.open)
			want[branch] = Instr{Op: Branch, At: at, X: "<", A: Term{"", 1}, B: Term{"", 2}, To: branchTo}
			want[jump] = Instr{Op: Jump, At: at, To: jumpTo}
		}
		wantBody(t, strings.Repeat(c.open, deep)+strings.Repeat("}", deep), want...)
	}
}

// TestP71Long: as many statements as a tree may have, and more of them in a block than instructions in a client's function.
func TestP71Long(t *testing.T) {
	const calls = (api.MaxNodes - 4) / 2
	want := make([]Instr, calls)
	for i := range want {
		want[i] = Instr{Op: Call, At: 4 * i, Y: "a"}
	}
	wantBody(t, strings.Repeat("a();", calls), want...)
	const aborts = 2000
	want = []Instr{{Op: Branch, X: "<", A: Term{"", 1}, B: Term{"", 2}, To: aborts + 2}}
	for i := range aborts {
		want = append(want, Instr{Op: Abort, At: 10 + 6*i})
	}
	wantBody(t, "while 1<2{"+strings.Repeat("abort;", aborts)+"}", append(want, Instr{Op: Jump})...)
}

// everyKind: all kinds, and some that are none.
func everyKind() []syntax.Kind {
	kinds := []syntax.Kind{math.MinInt, -1, syntax.Call + 1, math.MaxInt}
	for kind := syntax.Unit; kind <= syntax.Call; kind++ {
		kinds = append(kinds, kind)
	}
	return kinds
}

// TestP71OtherKinds: what is no Fn has no code, whatever else it has.
func TestP71OtherKinds(t *testing.T) {
	fn := mustParse(t, "fn f(x:int){x=1;}").Kids[0]
	for _, kind := range everyKind() {
		if kind == syntax.Fn {
			continue
		}
		n := fn
		n.Kind = kind
		for _, n := range []syntax.Node{n, {Kind: kind}, {Kind: kind, Text: "f", Num: 1, At: 2, Kids: []syntax.Node{fn}}} {
			if got := Lower(n); !sameCode(got, Code{}) {
				t.Errorf("P7.1: of a node of the Kind %d: %v", kind, got)
			}
		}
	}
	for _, n := range append(fn.Kids, mustParse(t, "type t own{a}where a<1;fn f(){}").Kids[0], mustParse(t, "fn f(){}"), syntax.Node{}) {
		if got := Lower(n); !sameCode(got, Code{}) {
			t.Errorf("P7.1: of %v: %v", n, got)
		}
	}
}
