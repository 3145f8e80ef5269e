package syntax

import (
	"fmt"
	"slices"
	"strings"
	"testing"

	"lychgate/api"
)

// kindNames is written out again, in the chapter's order, so that a kind at another number is told.
const kindNames = "Unit Type Sort Field Fact Term Fn Param Mode Block Set Store Free Lock Unlock If While Return Abort Fork Do Sum Less New Array Load Ref MutRef Call"

// dump writes a tree with all that is in it: (Kind@At Text Num Kids), without a Text that is empty and a Num that is 0; places are told from one on.
func dump(n Node, from int) string {
	s := fmt.Sprintf("(%s@%d", strings.Fields(kindNames)[n.Kind], n.At-from)
	if n.Text != "" {
		s += " " + n.Text
	}
	if n.Num != 0 {
		s += fmt.Sprintf(" %d", n.Num)
	}
	for _, kid := range n.Kids {
		s += " " + dump(kid, from)
	}
	return s + ")"
}

func sameTree(a, b Node) bool {
	return a.Kind == b.Kind && a.Text == b.Text && a.Num == b.Num && a.At == b.At && slices.EqualFunc(a.Kids, b.Kids, sameTree)
}

func mustParse(t *testing.T, text string) Node {
	t.Helper()
	n, at, e := Parse(text)
	if at != 0 || e != api.OK {
		t.Fatalf("P2.1: %.200q: the place %d, error %d", text, at, e)
	}
	return n
}

func wantUnit(t *testing.T, text, want string) {
	t.Helper()
	if got := dump(mustParse(t, text), 0); got != want {
		t.Errorf("P2.1: %q:\n got %s\nwant %s", text, got, want)
	}
}

// wantStatement: the statement's tree within a function, with places told from the statement's beginning on.
func wantStatement(t *testing.T, text, want string) {
	t.Helper()
	const ahead = "fn f() { "
	n := mustParse(t, ahead+text+" }")
	body := n.Kids[0].Kids[1].Kids
	if len(body) != 1 {
		t.Fatalf("P2.1: %q: %d statements", text, len(body))
	}
	if got := dump(body[0], len(ahead)); got != want {
		t.Errorf("P2.1: %q:\n got %s\nwant %s", text, got, want)
	}
}

func wantFault(t *testing.T, text string, at int, e api.Errno) {
	t.Helper()
	n, gotAt, got := Parse(text)
	if gotAt != at || got != e {
		t.Errorf("P2.1: %.200q: the place %d, error %d; want %d, %d", text, gotAt, got, at, e)
	}
	if !sameTree(n, Node{}) {
		t.Errorf("rule 2: %.200q: beside error %d the tree %v", text, got, n)
	}
}

// wantMarked: ErrToken at the place of the mark ! in the text, which is taken out.
func wantMarked(t *testing.T, marked string) {
	t.Helper()
	ahead, behind, found := strings.Cut(marked, "!")
	if !found {
		t.Fatalf("no mark in %q", marked)
	}
	wantFault(t, ahead+behind, len(ahead), api.ErrToken)
}

func TestKindsAreNumbered(t *testing.T) {
	kinds := []Kind{Unit, Type, Sort, Field, Fact, Term, Fn, Param, Mode, Block, Set, Store, Free, Lock, Unlock, If, While, Return, Abort, Fork, Do, Sum, Less, New, Array, Load, Ref, MutRef, Call}
	for i, kind := range kinds {
		if int(kind) != i {
			t.Errorf("the kind %s is %d, want %d", strings.Fields(kindNames)[i], kind, i)
		}
	}
}

func TestP21Units(t *testing.T) {
	for _, text := range []string{"", " ", "\n\n", "# a remark", "# fn f() {\n  "} {
		wantUnit(t, text, "(Unit@0)")
	}
	wantUnit(t, "  fn f() { }", "(Unit@0 (Fn@2 f (Mode@9) (Block@9)))")
	wantUnit(t, "type t cell;\nfn f() { }\ntype u own;\nfn g() { }",
		"(Unit@0 (Type@0 t (Sort@7 cell)) (Fn@13 f (Mode@20) (Block@20)) (Type@24 u (Sort@31 own)) (Fn@36 g (Mode@43) (Block@43)))")
	// What names stand for is no matter of this layer.
	wantUnit(t, "fn f(){} fn f(){}", "(Unit@0 (Fn@0 f (Mode@6) (Block@6)) (Fn@9 f (Mode@15) (Block@15)))")
}

func TestP21Types(t *testing.T) {
	wantUnit(t, "type t own;", "(Unit@0 (Type@0 t (Sort@7 own)))")
	wantUnit(t, "type t cell;", "(Unit@0 (Type@0 t (Sort@7 cell)))")
	wantUnit(t, "type t counted c;", "(Unit@0 (Type@0 t (Sort@7 counted (Term@15 c))))")
	wantUnit(t, "type t lock c;", "(Unit@0 (Type@0 t (Sort@7 lock (Term@12 c))))")
	wantUnit(t, "type t guard c;", "(Unit@0 (Type@0 t (Sort@7 guard (Term@13 c))))")
	wantUnit(t, "type t own { a };", "(Unit@0 (Type@0 t (Sort@7 own) (Field@13 a)))")
	wantUnit(t, "type t own { a[b] };", "(Unit@0 (Type@0 t (Sort@7 own) (Field@13 a (Term@15 b))))")
	wantUnit(t, "type t lock c { a, b[a], d };",
		"(Unit@0 (Type@0 t (Sort@7 lock (Term@12 c)) (Field@16 a) (Field@19 b (Term@21 a)) (Field@25 d)))")
	wantUnit(t, "type t own where a < 1;", "(Unit@0 (Type@0 t (Sort@7 own) (Fact@17 < (Term@17 a) (Term@21 1))))")
	wantUnit(t, "type t own { a } where -1 < a, a + 2 <= b - 3, 4 == a;",
		"(Unit@0 (Type@0 t (Sort@7 own) (Field@13 a) (Fact@23 < (Term@23 -1) (Term@28 a)) (Fact@31 <= (Term@31 a 2) (Term@40 b -3)) (Fact@47 == (Term@47 4) (Term@52 a))))")
}

func TestP21Functions(t *testing.T) {
	wantUnit(t, "fn f() { }", "(Unit@0 (Fn@0 f (Mode@7) (Block@7)))")
	wantUnit(t, "fn f() -> int { }", "(Unit@0 (Fn@0 f (Mode@10 int) (Block@14)))")
	wantUnit(t, "fn f() -> own vec { }", "(Unit@0 (Fn@0 f (Mode@10 own (Term@14 vec)) (Block@18)))")
	wantUnit(t, "fn f(x: int) { }", "(Unit@0 (Fn@0 f (Param@5 x (Mode@8 int)) (Mode@13) (Block@13)))")
	wantUnit(t, "fn f(x: int, y: own t, z: &t, w: & mut t) -> int { abort; }",
		"(Unit@0 (Fn@0 f (Param@5 x (Mode@8 int)) (Param@13 y (Mode@16 own (Term@20 t))) (Param@23 z (Mode@26 & (Term@27 t))) (Param@30 w (Mode@33 &mut (Term@39 t))) (Mode@45 int) (Block@49 (Abort@51))))")
	many := "fn f(a:int" + strings.Repeat(",a:int", 20) + "){}"
	if n := mustParse(t, many).Kids[0]; len(n.Kids) != 23 || n.Kids[20].Kind != Param || n.Kids[20].At != 5+20*6 || n.Kids[21].Kind != Mode || n.Kids[22].Kind != Block {
		t.Errorf("P2.1: %s", dump(n, 0))
	}
}

func TestP21Statements(t *testing.T) {
	wantStatement(t, "x = 1;", "(Set@0 x (Term@4 1))")
	wantStatement(t, "p[i] = x;", "(Store@0 p (Term@2 i) (Term@7 x))")
	wantStatement(t, "p[i + 1] = -3;", "(Store@0 p (Term@2 i 1) (Term@11 -3))")
	wantStatement(t, "p[0] = x - 4;", "(Store@0 p (Term@2) (Term@7 x -4))")
	wantStatement(t, "f();", "(Do@0 (Call@0 f))")
	wantStatement(t, "f(x);", "(Do@0 (Call@0 f (Term@2 x)))")
	wantStatement(t, "f(x, -1, y + 2, 3);", "(Do@0 (Call@0 f (Term@2 x) (Term@5 -1) (Term@9 y 2) (Term@16 3)))")
	wantStatement(t, "free p;", "(Free@0 p)")
	wantStatement(t, "lock p[0];", "(Lock@0 p)")
	wantStatement(t, "lock p[12];", "(Lock@0 p 12)")
	wantStatement(t, "unlock p[0];", "(Unlock@0 p)")
	wantStatement(t, "unlock p[7];", "(Unlock@0 p 7)")
	wantStatement(t, "return;", "(Return@0)")
	wantStatement(t, "return 0;", "(Return@0 (Term@7))")
	wantStatement(t, "return x - 1;", "(Return@0 (Term@7 x -1))")
	wantStatement(t, "abort;", "(Abort@0)")
	wantStatement(t, "fork f();", "(Fork@0 f)")
	wantStatement(t, "fork f(x, 1);", "(Fork@0 f (Term@7 x) (Term@10 1))")
}

func TestP21Blocks(t *testing.T) {
	wantStatement(t, "if x < 1 { }", "(If@0 < (Term@3 x) (Term@7 1) (Block@9) (Block@0))")
	wantStatement(t, "if x <= y + 1 { abort; }", "(If@0 <= (Term@3 x) (Term@8 y 1) (Block@14 (Abort@16)) (Block@0))")
	wantStatement(t, "if -1 == x { } else { }", "(If@0 == (Term@3 -1) (Term@9 x) (Block@11) (Block@20))")
	wantStatement(t, "if x < 1 { free a; } else { free b; free c; }", "(If@0 < (Term@3 x) (Term@7 1) (Block@9 (Free@11 a)) (Block@26 (Free@28 b) (Free@36 c)))")
	wantStatement(t, "while x == 0 { }", "(While@0 == (Term@6 x) (Term@11) (Block@13))")
	wantStatement(t, "while x - 2 < y { f(); return; }", "(While@0 < (Term@6 x -2) (Term@14 y) (Block@16 (Do@18 (Call@18 f)) (Return@23)))")
	// An else belongs to the if whose block ends right ahead of it.
	wantStatement(t, "if a < b { if c < d { } } else { }", "(If@0 < (Term@3 a) (Term@7 b) (Block@9 (If@11 < (Term@14 c) (Term@18 d) (Block@20) (Block@11))) (Block@31))")
	wantStatement(t, "if a < b { if c < d { } else { } }", "(If@0 < (Term@3 a) (Term@7 b) (Block@9 (If@11 < (Term@14 c) (Term@18 d) (Block@20) (Block@29))) (Block@0))")
}

func TestP21Expressions(t *testing.T) {
	wantStatement(t, "x = y;", "(Set@0 x (Term@4 y))")
	wantStatement(t, "x = -1;", "(Set@0 x (Term@4 -1))")
	wantStatement(t, "x = - 1;", "(Set@0 x (Term@4 -1))")
	wantStatement(t, "x = y + 2;", "(Set@0 x (Term@4 y 2))")
	wantStatement(t, "x = y - 2;", "(Set@0 x (Term@4 y -2))")
	wantStatement(t, "x = y + z;", "(Set@0 x (Sum@4 (Term@4 y) (Term@8 z)))")
	wantStatement(t, "x = y - z;", "(Set@0 x (Less@4 (Term@4 y) (Term@8 z)))")
	wantStatement(t, "x=y-2;", "(Set@0 x (Term@2 y -2))")
	wantStatement(t, "x=y-z;", "(Set@0 x (Less@2 (Term@2 y) (Term@4 z)))")
	wantStatement(t, "x = new 3;", "(Set@0 x (New@4 3))")
	wantStatement(t, "x = new 0;", "(Set@0 x (New@4))")
	wantStatement(t, "x = array n;", "(Set@0 x (Array@4 n))")
	wantStatement(t, "x = p[0];", "(Set@0 x (Load@4 p (Term@6)))")
	wantStatement(t, "x = p[i - 1];", "(Set@0 x (Load@4 p (Term@6 i -1)))")
	wantStatement(t, "x = &y;", "(Set@0 x (Ref@4 y))")
	wantStatement(t, "x = & y;", "(Set@0 x (Ref@4 y))")
	wantStatement(t, "x = &mut y;", "(Set@0 x (MutRef@4 y))")
	wantStatement(t, "x = & mut y;", "(Set@0 x (MutRef@4 y))")
	wantStatement(t, "x = f();", "(Set@0 x (Call@4 f))")
	wantStatement(t, "x = f(y);", "(Set@0 x (Call@4 f (Term@6 y)))")
	wantStatement(t, "x = f(y - 1, 2);", "(Set@0 x (Call@4 f (Term@6 y -1) (Term@13 2)))")
}

// TestP21Numbers: numbers up to MaxNum, with either sign, where a number may stand.
func TestP21Numbers(t *testing.T) {
	wantStatement(t, "x = 1099511627776;", "(Set@0 x (Term@4 1099511627776))")
	wantStatement(t, "x = -1099511627776;", "(Set@0 x (Term@4 -1099511627776))")
	wantStatement(t, "x = y + 1099511627776;", "(Set@0 x (Term@4 y 1099511627776))")
	wantStatement(t, "x = y - 1099511627776;", "(Set@0 x (Term@4 y -1099511627776))")
	wantStatement(t, "return y - 1099511627775;", "(Return@0 (Term@7 y -1099511627775))")
	wantStatement(t, "x = new 1099511627776;", "(Set@0 x (New@4 1099511627776))")
	wantStatement(t, "lock p[1099511627776];", "(Lock@0 p 1099511627776)")
	wantStatement(t, "unlock p[1099511627776];", "(Unlock@0 p 1099511627776)")
	wantStatement(t, "p[-1099511627776] = q + 1099511627776;", "(Store@0 p (Term@2 -1099511627776) (Term@20 q 1099511627776))")
	wantStatement(t, "x = -0;", "(Set@0 x (Term@4))")
	wantStatement(t, "x = y + 0;", "(Set@0 x (Term@4 y))")
	wantStatement(t, "x = y - 0;", "(Set@0 x (Term@4 y))")
	wantFault(t, "fn f() { x = -1099511627777; }", 14, api.ErrNumber)
}

func TestP21PlacesPassOverBlanksAndRemarks(t *testing.T) {
	wantUnit(t, "#1\nfn#2\nf#(\n( ) # -> int\n-> # own\nint\n{# }\nx # =\n=-#1\n2;\n}",
		"(Unit@0 (Fn@3 f (Mode@34 int) (Block@38 (Set@43 x (Term@50 -2)))))")
}

func TestP21FaultsOfLex(t *testing.T) {
	wantFault(t, strings.Repeat(" ", api.MaxText+1), 0, api.ErrLong)
	wantFault(t, "x"+strings.Repeat("?", 1<<20), 0, api.ErrLong)
	wantFault(t, "fn A", 3, api.ErrByte)
	wantFault(t, "fn f() { x = 01; }", 13, api.ErrNumber)
	wantFault(t, "fn f() { x = 1a; }", 13, api.ErrNumber)
	wantFault(t, "fn f() { x = "+strings.Repeat("a", api.MaxName+1)+"; }", 13, api.ErrWord)
	wantFault(t, "\xff", 0, api.ErrByte)
	// A fault of a token comes ahead of one of the grammar, wherever they stand.
	wantFault(t, "x y z A", 6, api.ErrByte)
	wantFault(t, "x 00", 2, api.ErrNumber)
	wantFault(t, "fn f() "+strings.Repeat("{ if 1 < 2 ", 20)+"A", 227, api.ErrByte)
	wantFault(t, "fn f() { "+strings.Repeat("x=1;", 2100)+"} A", 8411, api.ErrByte)
}

func TestP21MisplacedInDeclarations(t *testing.T) {
	for _, marked := range []string{
		"!x", "!{", "!;", "!1", "!if", "fn f() { } !}", "fn f() { } !;", "fn f() { } !x = 1;",
		"fn!", "fn !own() { }", "fn !1() { }", "fn !(", "fn f!", "fn f !{", "fn f(!", "fn f(!,", "fn f(!1", "fn f(!int)", "fn f(x!", "fn f(x!)", "fn f(x !int)",
		"fn f(x:!", "fn f(x: !t)", "fn f(x: !mut t)", "fn f(x: own!)", "fn f(x: own !int)", "fn f(x: &!)", "fn f(x: & !int)", "fn f(x: &mut!)", "fn f(x: &mut !mut t)", "fn f(x: & !& t)",
		"fn f(x: int!", "fn f(x: int !y: int)", "fn f(x: int,!)", "fn f(x: int,!", "fn f(x: int !t)", "fn f()!", "fn f() !;", "fn f() !int", "fn f() !- int { }", "fn f() !& int { }",
		"fn f() ->!", "fn f() -> !&t { }", "fn f() -> !t { }", "fn f() -> !{ }", "fn f() -> own !{ }", "fn f() -> int !;", "fn f() -> int !t { }", "fn f() {!", "fn f() { !fn g() { } }", "fn f() { !type t own; }",
		"type!", "type !own own;", "type t!", "type t !;", "type t !t;", "type t !int;", "type t own !t;", "type t cell !t;", "type t counted !;", "type t lock !{ a };", "type t guard !own;", "type t guard g !h;",
		"type t own!", "type t own {!", "type t own { !};", "type t own { !1 };", "type t own { !int };", "type t own { a!", "type t own { a !b };", "type t own { a, !};", "type t own { a !; };", "type t own { a[!1] };", "type t own { a[!] };", "type t own { a[b !+ 1] };", "type t own { a[b!, c] };", "type t own { a[b] ![c] };",
		"type t own { a } !{ b };", "type t own { a } !own;", "type t own { a }!", "type t own where !;", "type t own where a !;", "type t own where a < !;", "type t own where a != 1;", "type t own where a < 1,!;", "type t own where a < 1 !a < 2;", "type t own where a < b !< c;", "type t own where a - !b < 1;", "type t own where a < 1 !{ a };", "type t own where a < 1 !where a < 2;", "type t own;!;",
	} {
		wantMarked(t, marked)
	}
}

func TestP21MisplacedInStatements(t *testing.T) {
	for _, marked := range []string{
		"!;", "!1;", "!own x;", "!else { }", "!{ }", "!-1;", "!&x;", "!new 1;", "!array x;", "!mut x;",
		"x!", "x!;", "x !x;", "x !1 = 1;", "x !+ 1;", "x !-> 1;", "x !== 1;", "x !: int;", "x =!", "x = !;", "x = 1!", "x = 1 !}", "x = 1 !+ 1;", "x = 1 !x;", "x = -!;", "x = -!x;", "x = - !- 1;", "x = !+ 1;", "x = !(y);", "x = != 1;",
		"x = y!", "x = y !y;", "x = y + !;", "x = y - !- 1;", "x = y + !-1;", "x = y + 1 !+ 1;", "x = y + z !+ 1;", "x = y + z !- w;", "x = y + z![0];", "x = y - z!(1);", "x = y !-> z;", "x = y + 1![0];", "x = y !< z;", "x = y !== z;",
		"x = new!", "x = new !;", "x = new !n;", "x = new !-1;", "x = new 1 !+ 1;", "x = array !;", "x = array !1;", "x = array !int;", "x = array n ![1];", "x = & !;", "x = & !1;", "x = &mut !mut y;", "x = &mut !;", "x = !mut y;", "x = &y ![0];", "x = &y!(1);", "x = & !& y;", "x = &y !+ 1;",
		"x = p[!", "x = p[!];", "x = p[1!", "x = p[1 !;", "x = p[1!, 2];", "x = p[q![1]];", "x = p[q!(1)];", "x = p[q + !r];", "x = p[1] !+ 1;", "x = p[1] ![2];", "x = p[1] != 2;", "x = p[!&q];",
		"x = f(!", "x = f(!;", "x = f(!,);", "x = f(1,!);", "x = f(1 !2);", "x = f(1!", "x = f(!&y);", "x = f(g!());", "x = f(y - !z);", "x = f() !+ 1;", "x = f()!();", "x = f(!new 1);",
		"p[!] = 1;", "p[1!", "p[1] !;", "p[1] !== 1;", "p[1] = !;", "p[1] = !new 1;", "p[1] = !&x;", "p[1] = q![1];", "p[1] = f!();", "p[1] = q + !r;", "p[1] = q !r;", "p[i]![j] = 1;",
		"f(!", "f(!]", "f(1!;", "f(1,!);", "f()!", "f() != 1;", "f()![1];", "f() !g();", "f(x!: int);",
		"free !;", "free !1;", "free p![1];", "free p!", "free p !q;", "lock !;", "lock p!;", "lock p[!];", "lock p[!i];", "lock p[!-1];", "lock p[1 !+ 1];", "lock p[1]!", "lock p[1] != 1;", "unlock !1;", "unlock p!;", "unlock p[!i];", "unlock p[1!, 2];", "unlock p[1] !p;",
		"if !{ }", "if x !{ }", "if x < !{ }", "if x < 1!", "if x < 1 !;", "if x < 1 !abort;", "if x != 1 { }", "if x - !y < 1 { }", "if !(x) < 1 { }", "if x![0] < 1 { }", "if x < y !< z { }", "if x < 1 { !", "if x < 1 { } else !", "if x < 1 { } else !if x < 2 { }", "if x < 1 { } else !;", "if x < 1 { } else { !", "if x < 1 { } !;", "if x < 1 { } else { } !else { }",
		"while !{ }", "while x !{ }", "while x <= !", "while x == 1 !;", "while x == 1 { } !else { }", "while x == 1 { !", "while x + !y == 1 { }", "while x == 1 { } !;",
		"return!", "return !}", "return x!", "return x !}", "return !&x;", "return x![0];", "return f!();", "return x + !y;", "return 1 !2;", "return !return;", "return -!;", "abort!", "abort !}", "abort !1;", "abort !abort;",
		"fork !;", "fork !1();", "fork f!;", "fork f(!", "fork f(1,!);", "fork f(!&x);", "fork f()!", "fork f() != 1;", "fork f() !+ 1;", "fork f(x![0]);",
	} {
		wantMarked(t, "fn f() { "+marked)
	}
}

// TestP21FirstFault: of two faults of the grammar the one on the left is told.
func TestP21FirstFault(t *testing.T) {
	deep := "fn f() " + strings.Repeat("{ if 1 < 2 ", api.MaxNest)
	wantFault(t, deep+"{ ) (", len(deep), api.ErrNest)
	wantFault(t, deep+") {", len(deep), api.ErrToken)
	wantFault(t, "fn f() { ; "+strings.Repeat("{ if 1 < 2 ", 20), 9, api.ErrToken)
	wantFault(t, "type t ; x y z", 7, api.ErrToken)
	wantFault(t, "fn f(x) { y }", 6, api.ErrToken)
}

// nested: a function with that many blocks within one another.
func nested(blocks int) string {
	return "fn f() {" + strings.Repeat("while x < 1 {", blocks-1) + strings.Repeat("}", blocks)
}

// nestPlace is the place of the first block that is one too many in what nested gives.
const nestPlace = len("fn f() {") + (api.MaxNest-1)*len("while x < 1 {") + len("while x < 1 ")

func TestP21Nest(t *testing.T) {
	mustParse(t, nested(api.MaxNest))
	wantFault(t, nested(api.MaxNest+1), nestPlace, api.ErrNest)
	wantFault(t, nested(100), nestPlace, api.ErrNest)
	// Blocks beside one another and ended ones don't count; neither do the braces of a type.
	mustParse(t, nested(api.MaxNest)+nested(api.MaxNest))
	mustParse(t, "fn f() {"+strings.Repeat("if x < 1 { } else { }", 100)+"}")
	mustParse(t, "type t own { a };"+nested(api.MaxNest))
	deep := strings.TrimSuffix(nested(api.MaxNest), strings.Repeat("}", api.MaxNest))
	for _, inner := range []string{"if 1 < 2 ", "while 1 < 2 "} {
		wantFault(t, deep+inner+"{", len(deep)+len(inner), api.ErrNest)
		wantFault(t, deep+"x = 1;"+inner+"{ }", len(deep)+6+len(inner), api.ErrNest)
	}
	less := strings.TrimSuffix(deep, "while x < 1 {")
	mustParse(t, less+"if 1 < 2 { } else { }"+strings.Repeat("}", api.MaxNest-1))
	wantFault(t, less+"if 1 < 2 { } else { if 1 < 2 { } }", len(less)+len("if 1 < 2 { } else { if 1 < 2 "), api.ErrNest)
	wantFault(t, deep+"} while x < 1 { if 1 < 2 {", len(deep)+len("} while x < 1 { if 1 < 2 "), api.ErrNest)
}

func TestP21Many(t *testing.T) {
	// A function's own nodes, with the Unit, are four; a Set of a number is two, and a Free one.
	sets := (api.MaxNodes - 4) / 2
	full := "fn f(){" + strings.Repeat("x=1;", sets)
	if n := mustParse(t, full+"}"); Size(n) != api.MaxNodes {
		t.Errorf("P2.1, P2.2: %d nodes", Size(n))
	}
	for _, one := range []string{"free x;", "abort;", "return;", "lock x[1];", "fork f();"} {
		wantFault(t, full+one+"}", 0, api.ErrMany)
	}
	wantFault(t, full+"} type t own;", 0, api.ErrMany)
	wantFault(t, full+"x=1;}", 0, api.ErrMany)
	wantFault(t, "fn f(){"+strings.Repeat("x=1;", 4094)+"}", 0, api.ErrMany)
	less := strings.Replace(full, "x=1;", "free x;", 1)
	if n := mustParse(t, less+"}"); Size(n) != api.MaxNodes-1 {
		t.Errorf("P2.1, P2.2: %d nodes", Size(n))
	}
	if n := mustParse(t, less+"abort;}"); Size(n) != api.MaxNodes {
		t.Errorf("P2.1, P2.2: %d nodes", Size(n))
	}
	wantFault(t, less+"f();}", 0, api.ErrMany)
	// The second block of an If without an else is a node too.
	wantFault(t, strings.Replace(full, "x=1;x=1;", "if 1<2 {}", 1)+"}", 0, api.ErrMany)
	mustParse(t, strings.Replace(full, "x=1;x=1;x=1;", "if 1<2 {} abort;", 1)+"}")
	// A text that isn't read to its end is told of that.
	wantFault(t, full+"x=1;", len(full)+4, api.ErrToken)
	wantFault(t, full+"x=1;}}", len(full)+5, api.ErrToken)
	wantFault(t, full+"x=1;}"+nested(20), len(full)+5+nestPlace, api.ErrNest)
	facts := "type t own where a<a" + strings.Repeat(",a<a", 1363)
	if n := mustParse(t, facts+";"); Size(n) != 3+3*1364 {
		t.Errorf("P2.1, P2.2: %d nodes", Size(n))
	}
	wantFault(t, facts+",a<a;", 0, api.ErrMany)
}

func TestP22(t *testing.T) {
	leaf := Node{}
	for want, n := range map[int]Node{
		1: leaf,
		2: {Kids: []Node{leaf}},
		4: {Kids: make([]Node, 3)},
		5: {Kind: Call, Text: "f", Kids: []Node{{Kind: Unit, Kids: []Node{leaf, leaf}}, leaf}},
		3: {Kind: -1, Num: -1 << 63, At: -1 << 63, Kids: []Node{{Kind: 1 << 40, Text: "?", Kids: []Node{{At: 1<<63 - 1}}}}},
	} {
		if got := Size(n); got != want {
			t.Errorf("P2.2: %v: %d, want %d", n, got, want)
		}
	}
	if got := Size(Node{Kids: []Node{}}); got != 1 {
		t.Errorf("P2.2: %d", got)
	}
	if got := Size(Node{Kids: make([]Node, 2, 9)}); got != 3 {
		t.Errorf("P2.2, rule 4: %d", got)
	}
	if got := Size(Node{Kids: make([]Node, 1<<20)}); got != 1<<20+1 {
		t.Errorf("P2.2: %d", got)
	}
	deep := Node{}
	for range 1 << 16 {
		deep = Node{Kids: []Node{deep}}
	}
	if got := Size(deep); got != 1<<16+1 {
		t.Errorf("P2.2: %d", got)
	}
	shared := Node{Kids: make([]Node, 9)}
	if got := Size(Node{Kids: []Node{shared, shared, shared}}); got != 31 {
		t.Errorf("P2.2: %d", got)
	}
	for _, text := range []string{"", "fn f(){}", "type t own{a[b]}where a<b;fn f(x:&mut t)->own t{if x<1{f(x,2);}}"} {
		n := mustParse(t, text)
		if want := strings.Count(dump(n, 0), "("); Size(n) != want {
			t.Errorf("P2.2: %q: %d, want %d", text, Size(n), want)
		}
	}
}

// overwrite changes all that a tree's lists hold, and what lies behind their lengths.
func overwrite(n *Node) {
	n.Kids = n.Kids[:cap(n.Kids)]
	for i := range n.Kids {
		overwrite(&n.Kids[i])
		n.Kids[i] = Node{Text: "overwritten"}
	}
}

// fillBehind writes behind the length of each of a tree's lists, which no other list may show.
func fillBehind(n Node) {
	behind := n.Kids[len(n.Kids):cap(n.Kids)]
	for i := range behind {
		behind[i] = Node{Text: "behind"}
	}
	for _, kid := range n.Kids {
		fillBehind(kid)
	}
}

// TestAnswersAreNew: what is done with one answer isn't seen in another, nor in another list of it (rules 4 and 8, P2).
func TestAnswersAreNew(t *testing.T) {
	const text = "type t own { a, b[a], c } where 0 < a, a < b; fn f(x: int, y: &t) -> int { if x < 1 { f(x, 1, 2); } else { x = y + z; p[1] = 2; } return 1; }"
	first, second := mustParse(t, text), mustParse(t, text)
	want := dump(second, 0)
	fillBehind(first)
	if got := dump(first, 0); got != want {
		t.Errorf("rule 4: %s, want %s", got, want)
	}
	overwrite(&first)
	if got := dump(second, 0); got != want {
		t.Errorf("rule 4: %s, want %s", got, want)
	}
	if got := dump(mustParse(t, text), 0); got != want {
		t.Errorf("rule 8: %s, want %s", got, want)
	}
	before := dump(second, 0)
	Size(second)
	if got := dump(second, 0); got != before {
		t.Errorf("rule 4: Size changed %s to %s", before, got)
	}
}
