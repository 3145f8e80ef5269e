package show

import (
	"math"
	"strings"
	"testing"

	"lychgate/api"
	. "lychgate/syntax"
)

// name is a Term of a name, sum of a name and a number, num of a number.
func name(text string) Node { return Node{Kind: Term, Text: text} }

func sum(text string, n int64) Node { return Node{Kind: Term, Text: text, Num: n} }

func num(n int64) Node { return Node{Kind: Term, Num: n} }

func node(kind Kind, text string, kids ...Node) Node { return Node{Kind: kind, Text: text, Kids: kids} }

func block(kids ...Node) Node { return Node{Kind: Block, Kids: kids} }

func wantShow(t *testing.T, n Node, want string) {
	t.Helper()
	if got := Show(n); got != want {
		t.Errorf("P3.1: %v:\n got %q\nwant %q", n, got, want)
	}
}

// wantText: the text of what is read from a text.
func wantText(t *testing.T, text, want string) {
	t.Helper()
	n, at, e := Parse(text)
	if e != api.OK {
		t.Fatalf("%q isn't read: error %d at %d", text, e, at)
	}
	if got := Show(n); got != want {
		t.Errorf("P3.1: %q:\n got %q\nwant %q", text, got, want)
	}
}

func TestP31Units(t *testing.T) {
	wantShow(t, Node{}, "")
	wantText(t, "", "")
	wantText(t, " # a remark", "")
	wantText(t, "fn f(){x=-1;}", "fn f() {\n    x = -1;\n}\n")
	wantText(t, "type t own;fn f(){}type u cell;fn g(){}", "type t own;\nfn f() {\n}\ntype u cell;\nfn g() {\n}\n")
	wantShow(t, node(Unit, "a text that no Unit has", node(Type, "t", node(Sort, "own"))), "type t own;\n")
}

func TestP31Types(t *testing.T) {
	wantText(t, "type t own;", "type t own;\n")
	wantText(t, "type t cell{a};", "type t cell { a };\n")
	wantText(t, "type t counted c{a,b};", "type t counted c { a, b };\n")
	wantText(t, "type t lock c where 0<a;", "type t lock c where 0 < a;\n")
	wantText(t, "type t guard c where 0<=a,a==b-3;", "type t guard c where 0 <= a, a == b - 3;\n")
	wantText(t, "type t own{a,d[a],e}where -1<a,a+2<=d;", "type t own { a, d[a], e } where -1 < a, a + 2 <= d;\n")
	fact := node(Fact, "<", num(0), name("a"))
	wantShow(t, node(Type, "t", node(Sort, "own")), "type t own;")
	wantShow(t, node(Type, "t", node(Sort, "own"), node(Field, "a")), "type t own { a };")
	wantShow(t, node(Type, "t", node(Sort, "own"), fact), "type t own where 0 < a;")
	wantShow(t, node(Type, "t", node(Sort, "own"), node(Field, "a"), fact, fact), "type t own { a } where 0 < a, 0 < a;")
	wantShow(t, fact, "0 < a")
	wantShow(t, node(Fact, "~", sum("a", 1), sum("b", -1)), "a + 1 ~ b - 1")
}

// TestP31MaybeTerms: a Sort, a Field, a Return and a Mode may have one Term or none, whatever their Text is.
func TestP31MaybeTerms(t *testing.T) {
	for _, text := range []string{"own", "cell", "counted", "lock", "guard", "", "x"} {
		wantShow(t, node(Sort, text), text)
		wantShow(t, node(Sort, text, name("c")), text+" c")
		wantShow(t, node(Sort, text, sum("c", -2)), text+" c - 2")
		wantShow(t, node(Sort, text, num(0)), text+" 0")
		wantShow(t, node(Field, text), text)
		wantShow(t, node(Field, text, name("c")), text+"[c]")
		wantShow(t, node(Field, text, sum("c", 2)), text+"[c + 2]")
		wantShow(t, node(Field, text, num(-7)), text+"[-7]")
		wantShow(t, node(Return, text), "return;")
		wantShow(t, node(Return, text, name("c")), "return c;")
		wantShow(t, node(Return, text, sum("c", 2)), "return c + 2;")
		wantShow(t, node(Return, text, num(0)), "return 0;")
	}
	for text, want := range map[string]string{"own": "own ", "&mut": "&mut ", "&": "&"} {
		wantShow(t, node(Mode, text), want)
		wantShow(t, node(Mode, text, name("c")), want+"c")
		wantShow(t, node(Mode, text, sum("c", 2)), want+"c + 2")
		wantShow(t, node(Mode, text, num(-7)), want+"-7")
	}
	for _, text := range []string{"int", "", "x", "mut", "own ", "& mut", "&&"} {
		wantShow(t, node(Mode, text), text)
		wantShow(t, node(Mode, text, name("c")), text)
	}
}

func TestP31Terms(t *testing.T) {
	wantShow(t, num(0), "0")
	wantShow(t, num(7), "7")
	wantShow(t, num(-7), "-7")
	wantShow(t, num(api.MaxNum), "1099511627776")
	wantShow(t, num(-api.MaxNum), "-1099511627776")
	wantShow(t, num(math.MaxInt64), "9223372036854775807")
	wantShow(t, num(math.MinInt64), "-9223372036854775808")
	wantShow(t, name("x"), "x")
	wantShow(t, sum("x", 7), "x + 7")
	wantShow(t, sum("x", -7), "x - 7")
	wantShow(t, sum("x", 1), "x + 1")
	wantShow(t, sum("x", -1), "x - 1")
	wantShow(t, sum("x", math.MaxInt64), "x + 9223372036854775807")
	wantShow(t, sum("x", math.MinInt64), "x - 9223372036854775808")
	wantShow(t, sum("\xff if {\n", 1), "\xff if {\n + 1")
}

func TestP31Functions(t *testing.T) {
	wantText(t, "fn f(){}", "fn f() {\n}\n")
	wantText(t, "fn f(x:int){}", "fn f(x: int) {\n}\n")
	wantText(t, "fn f()->int{}", "fn f() -> int {\n}\n")
	wantText(t, "fn f(x:int,y:own t,z:&t,w:& mut t)->own t{abort;}", "fn f(x: int, y: own t, z: &t, w: &mut t) -> own t {\n    abort;\n}\n")
	wantShow(t, node(Param, "x", node(Mode, "&mut", name("t"))), "x: &mut t")
	wantShow(t, node(Param, "x", node(Mode, "")), "x: ")
	wantShow(t, node(Fn, "f", node(Mode, ""), block()), "fn f() {\n}")
	wantShow(t, node(Fn, "f", node(Mode, "&", name("t")), block()), "fn f() -> &t {\n}")
	wantShow(t, node(Fn, "f", node(Mode, "own"), block()), "fn f() -> own  {\n}")
	// A result without a Text isn't shown, whatever it has.
	wantShow(t, node(Fn, "f", node(Mode, "", name("t")), block()), "fn f() {\n}")
	wantShow(t, node(Fn, "f", node(Mode, "", block(), block()), block()), "fn f() {\n}")
}

func TestP31Statements(t *testing.T) {
	for _, s := range []struct{ text, want string }{
		{"x=1;", "x = 1;"},
		{"p[i+1]=-3;", "p[i + 1] = -3;"},
		{"p[0]=q;", "p[0] = q;"},
		{"free p;", "free p;"},
		{"lock p[0];", "lock p[0];"},
		{"lock p[12];", "lock p[12];"},
		{"unlock p[0];", "unlock p[0];"},
		{"unlock p[1099511627776];", "unlock p[1099511627776];"},
		{"return;", "return;"},
		{"return 0;", "return 0;"},
		{"return x-1;", "return x - 1;"},
		{"abort;", "abort;"},
		{"fork f();", "fork f();"},
		{"fork f(x,1,y-2);", "fork f(x, 1, y - 2);"},
		{"f();", "f();"},
		{"f(x+1,-1);", "f(x + 1, -1);"},
		{"x=y;", "x = y;"},
		{"x=y+0;", "x = y;"},
		{"x=y-0;", "x = y;"},
		{"x=-0;", "x = 0;"},
		{"x=y+2;", "x = y + 2;"},
		{"x=y-2;", "x = y - 2;"},
		{"x=y+z;", "x = y + z;"},
		{"x=y-z;", "x = y - z;"},
		{"x=new 3;", "x = new 3;"},
		{"x=new 0;", "x = new 0;"},
		{"x=array n;", "x = array n;"},
		{"x=p[0];", "x = p[0];"},
		{"x=p[i-1];", "x = p[i - 1];"},
		{"x=& y;", "x = &y;"},
		{"x=& mut y;", "x = &mut y;"},
		{"x=f();", "x = f();"},
		{"x=f(1);", "x = f(1);"},
		{"x=f(y,z+1,3);", "x = f(y, z + 1, 3);"},
	} {
		wantText(t, "fn f(){"+s.text+"}", "fn f() {\n    "+s.want+"\n}\n")
		n, _, _ := Parse("fn f(){" + s.text + "}")
		// A statement that is shown alone stands in no block.
		wantShow(t, n.Kids[0].Kids[1].Kids[0], s.want)
	}
}

func TestP31Expressions(t *testing.T) {
	wantShow(t, node(Sum, "", name("x"), name("y")), "x + y")
	wantShow(t, node(Sum, "", sum("x", -1), num(-2)), "x - 1 + -2")
	wantShow(t, node(Less, "", name("x"), name("y")), "x - y")
	wantShow(t, node(Less, "", num(1), sum("y", 2)), "1 - y + 2")
	wantShow(t, Node{Kind: New, Num: 3}, "new 3")
	wantShow(t, Node{Kind: New, Num: math.MinInt64}, "new -9223372036854775808")
	wantShow(t, Node{Kind: Lock, Text: "p", Num: -1}, "lock p[-1];")
	wantShow(t, Node{Kind: Unlock, Text: "p", Num: math.MaxInt64}, "unlock p[9223372036854775807];")
	wantShow(t, node(Array, "n"), "array n")
	wantShow(t, node(Load, "p", sum("i", 1)), "p[i + 1]")
	wantShow(t, node(Ref, "x"), "&x")
	wantShow(t, node(MutRef, "x"), "&mut x")
	wantShow(t, node(Call, "f"), "f()")
	wantShow(t, node(Call, "f", name("x"), num(1), sum("y", -1)), "f(x, 1, y - 1)")
	wantShow(t, node(Do, "", node(Call, "f", name("x"))), "f(x);")
}

func TestP31Blocks(t *testing.T) {
	abort := node(Abort, "")
	wantShow(t, block(), "{\n}")
	wantShow(t, block(abort, abort), "{\n    abort;\n    abort;\n}")
	wantShow(t, node(While, "==", name("x"), num(0), block()), "while x == 0 {\n}")
	wantShow(t, node(If, "<", name("x"), num(1), block(), block()), "if x < 1 {\n}")
	wantShow(t, node(If, "<", name("x"), num(1), block(abort), block()), "if x < 1 {\n    abort;\n}")
	wantShow(t, node(If, "<", name("x"), num(1), block(), block(abort)), "if x < 1 {\n} else {\n    abort;\n}")
	wantText(t, "fn f(){if 1<2{}else{}}", "fn f() {\n    if 1 < 2 {\n    }\n}\n")
	wantText(t, "fn f(){if 1<=2{}else{abort;}}", "fn f() {\n    if 1 <= 2 {\n    } else {\n        abort;\n    }\n}\n")
	wantText(t, "fn f(){while x==y{if a<=-1{abort;}else{while 1<2{}x=1;}}}",
		"fn f() {\n    while x == y {\n        if a <= -1 {\n            abort;\n        } else {\n            while 1 < 2 {\n            }\n            x = 1;\n        }\n    }\n}\n")
	// What is behind a block stands as deep as what is ahead of it.
	wantText(t, "fn f(){if 1<2{}if 1<2{if 1<2{}}abort;}fn g(){abort;}",
		"fn f() {\n    if 1 < 2 {\n    }\n    if 1 < 2 {\n        if 1 < 2 {\n        }\n    }\n    abort;\n}\nfn g() {\n    abort;\n}\n")
}

// TestP31WrongWithin: a node whose kids aren't right is ? where it stands; what is around it is shown.
func TestP31WrongWithin(t *testing.T) {
	odd := node(Term, "x", name("y"))
	wantShow(t, odd, "?")
	wantShow(t, node(Set, "x", node(Load, "p")), "x = ?;")
	wantShow(t, node(Set, "x", odd), "x = ?;")
	wantShow(t, node(Set, "x", node(Abort, "")), "?")
	wantShow(t, node(Store, "p", odd, num(1)), "p[?] = 1;")
	wantShow(t, node(Store, "p", num(1), odd), "p[1] = ?;")
	wantShow(t, node(Do, "", node(Call, "f", num(1), odd)), "f(1, ?);")
	wantShow(t, node(Do, "", node(Call, "f", num(1), block())), "?;")
	wantShow(t, node(Fork, "f", odd), "fork f(?);")
	wantShow(t, node(Return, "", odd), "return ?;")
	wantShow(t, node(Sum, "", odd, odd), "? + ?")
	wantShow(t, node(Less, "", num(1), odd), "1 - ?")
	wantShow(t, node(Load, "p", odd), "p[?]")
	wantShow(t, node(Fact, "<", odd, num(1)), "? < 1")
	wantShow(t, node(Type, "t", node(Sort, "own", odd), node(Field, "a", odd), node(Field, "b", num(1), num(2)), node(Fact, "<")), "type t own ? { a[?], ? } where ?;")
	wantShow(t, node(Type, "t", node(Sort, "own", num(1), num(2))), "type t ?;")
	wantShow(t, node(Fn, "f", node(Param, "x"), node(Param, "y", node(Mode, "own", odd)), node(Mode, "int", num(1), num(2)), block(node(Set, "x"))), "fn f(?, y: own ?) -> ? {\n    ?\n}")
	wantShow(t, node(Fn, "f", node(Mode, ""), block(num(1))), "fn f() ?")
	wantShow(t, node(Unit, "", node(Type, ""), node(Fn, "")), "?\n?\n")
	wantShow(t, node(Unit, "", node(Type, ""), node(Unit, "")), "?")
	wantShow(t, node(While, "<", odd, num(1), block(num(1))), "while ? < 1 ?")
	wantShow(t, node(If, "<", num(0), odd, block(num(1)), block(num(2))), "if 0 < ? ? else ?")
	wantShow(t, block(node(If, "<"), node(Abort, ""), node(Abort, "", num(1))), "{\n    ?\n    abort;\n    ?\n}")
	for _, kind := range []Kind{-1, Call + 1, math.MinInt, math.MaxInt} {
		wantShow(t, node(kind, "x"), "?")
		wantShow(t, node(kind, "x", num(1)), "?")
		wantShow(t, node(Set, "x", node(kind, "x")), "?")
	}
}

// deep: that many blocks within one another, by hand, with a fault in the innermost one.
func deep(blocks int) Node {
	n := block(node(Set, "x"))
	for range blocks - 1 {
		n = block(node(While, "<", num(1), num(2), n))
	}
	return n
}

func TestP31DeepAndWide(t *testing.T) {
	const blocks = 4000
	lines := strings.Split(Show(deep(blocks)), "\n")
	if len(lines) != 2*blocks+1 {
		t.Fatalf("P3.1: %d lines", len(lines))
	}
	for i, line := range lines {
		blanks := 4 * min(i, 2*blocks-i)
		want := "while 1 < 2 {"
		switch {
		case i == 0:
			want = "{"
		case i == blocks:
			want = "?"
		case i > blocks:
			want = "}"
		}
		if len(line) != blanks+len(want) || strings.Trim(line, " ") != want {
			t.Fatalf("P3.1: line %d has %d bytes and is %.40q", i, len(line), strings.Trim(line, " "))
		}
	}
	wide := node(Call, "f", make([]Node, 1<<18)...)
	for i := range wide.Kids {
		wide.Kids[i] = num(1)
	}
	if Show(wide) != "f(1"+strings.Repeat(", 1", 1<<18-1)+")" {
		t.Errorf("P3.1: a Call of many Terms isn't shown")
	}
	wide.Kids[1<<18-1].Kind = Block
	wantShow(t, wide, "?")
}

// TestDeepNest: as deep as the document's bound lets a tree be, where its text stays short.
func TestDeepNest(t *testing.T) {
	n := Node{}
	for range 1 << 16 {
		n = node(Unit, "", n)
	}
	wantShow(t, n, "?")
}

func sameNode(a, b Node) bool {
	if a.Kind != b.Kind || a.Text != b.Text || a.Num != b.Num || a.At != b.At || len(a.Kids) != len(b.Kids) || cap(a.Kids) != cap(b.Kids) {
		return false
	}
	a.Kids, b.Kids = a.Kids[:cap(a.Kids)], b.Kids[:cap(b.Kids)]
	for i := range a.Kids {
		if !sameNode(a.Kids[i], b.Kids[i]) {
			return false
		}
	}
	return true
}

func copyNode(n Node) Node {
	kids := make([]Node, len(n.Kids), cap(n.Kids))
	for i, kid := range n.Kids[:cap(n.Kids)] {
		kids[:cap(kids)][i] = copyNode(kid)
	}
	n.Kids = kids
	return n
}

// TestListsAreLeft: what lies behind a list's length is neither shown nor changed, nor is anything else of what is handed in (rule 4); an empty list may be nil or not.
func TestListsAreLeft(t *testing.T) {
	kids := []Node{name("x"), num(1), node(Block, "")}
	n := Node{Kind: Call, Text: "f", Kids: kids[:1]}
	wantShow(t, n, "f(x)")
	n.Kids = kids[:0]
	wantShow(t, n, "f()")
	wantShow(t, Node{Kind: Abort, Kids: []Node{}}, "abort;")
	wantShow(t, Node{Kind: Abort, Kids: kids[:0]}, "abort;")
	wantShow(t, Node{Kind: Sum, Kids: kids[:2]}, "x + 1")
	wantShow(t, Node{Kind: Sum, Kids: kids[:1]}, "?")
	for _, text := range sampleTexts() {
		n, _, _ := Parse(text)
		before := copyNode(n)
		first := Show(n)
		if !sameNode(n, before) {
			t.Errorf("rule 4: Show of %q changed it", text)
		}
		if Show(n) != first || Show(copyNode(n)) != first {
			t.Errorf("rule 8: Show of %q tells two texts", text)
		}
	}
}

func TestP32(t *testing.T) {
	for _, c := range []struct {
		text             string
		at, line, column int
	}{
		{"", 0, 1, 1}, {"", 1, 0, 0}, {"", -1, 0, 0},
		{"a", 0, 1, 1}, {"a", 1, 1, 2}, {"a", 2, 0, 0},
		{"\n", 0, 1, 1}, {"\n", 1, 2, 1}, {"\n", 2, 0, 0},
		{"a\nbc", 0, 1, 1}, {"a\nbc", 1, 1, 2}, {"a\nbc", 2, 2, 1}, {"a\nbc", 3, 2, 2}, {"a\nbc", 4, 2, 3}, {"a\nbc", 5, 0, 0},
		{"a\n\n\nb", 2, 2, 1}, {"a\n\n\nb", 3, 3, 1}, {"a\n\n\nb", 4, 4, 1}, {"a\n\n\nb", 5, 4, 2},
		{"a\nb\n", 3, 2, 2}, {"a\nb\n", 4, 3, 1},
		{"a\r\tb", 3, 1, 4}, {"\xc3\xa4\xff", 3, 1, 4}, {"\xe2\x80\xa8x", 3, 1, 4},
		{"a\nb", math.MaxInt, 0, 0}, {"a\nb", math.MinInt, 0, 0},
	} {
		if line, column := Line(c.text, c.at); line != c.line || column != c.column {
			t.Errorf("P3.2: %q at %d: %d, %d; want %d, %d", c.text, c.at, line, column, c.line, c.column)
		}
	}
}

// TestP32All: every place of every text of up to eight bytes, counted one by one.
func TestP32All(t *testing.T) {
	texts := []string{""}
	for len(texts[0]) <= 8 {
		text := texts[0]
		texts = append(texts[1:], text+"x", text+"\n")
		line, column := 1, 1
		for at := 0; at <= len(text); at++ {
			if gotLine, gotColumn := Line(text, at); gotLine != line || gotColumn != column {
				t.Fatalf("P3.2: %q at %d: %d, %d; want %d, %d", text, at, gotLine, gotColumn, line, column)
			}
			column++
			if at < len(text) && text[at] == '\n' {
				line, column = line+1, 1
			}
		}
		for _, at := range []int{-1, -2, len(text) + 1, len(text) + 2} {
			if line, column := Line(text, at); line != 0 || column != 0 {
				t.Fatalf("P3.2: %q at %d: %d, %d", text, at, line, column)
			}
		}
	}
}

func TestP32Long(t *testing.T) {
	text := strings.Repeat(strings.Repeat("x", 999)+"\n", 1000) + "yy"
	for at, want := range map[int][2]int{0: {1, 1}, 999: {1, 1000}, 1000: {2, 1}, 999_999: {1000, 1000}, 1_000_000: {1001, 1}, 1_000_002: {1001, 3}, 1_000_003: {0, 0}} {
		if line, column := Line(text, at); line != want[0] || column != want[1] {
			t.Errorf("P3.2: at %d: %d, %d; want %v", at, line, column, want)
		}
	}
}
