package show

import (
	"math/rand"
	"strings"
	"testing"

	"lychgate/api"
	"lychgate/lex"
	. "lychgate/syntax"
)

// sameButPlaces: are two trees the same, but for places? An empty block behind else is the same node as that of an If without an else, but for its place.
func sameButPlaces(a, b Node) bool {
	if a.Kind != b.Kind || a.Text != b.Text || a.Num != b.Num || len(a.Kids) != len(b.Kids) {
		return false
	}
	for i := range a.Kids {
		if !sameButPlaces(a.Kids[i], b.Kids[i]) {
			return false
		}
	}
	return true
}

// plain: the tokens of a text that are those of the tree's text: without an else and its empty block, and without what is done with a number 0.
func plain(tokens []lex.Token) []lex.Token {
	var out []lex.Token
	for i := 0; i < len(tokens)-1; i++ {
		switch {
		case tokens[i].Text == "else" && tokens[i+1].Text == "{" && tokens[i+2].Text == "}":
			i += 2
		case (tokens[i].Text == "+" || tokens[i].Text == "-") && tokens[i+1].Text == "0":
			if i > 0 && tokens[i-1].Kind == lex.Word {
				i++
			}
		default:
			out = append(out, tokens[i])
		}
	}
	return out
}

// layout is a second account of a Unit's text, from the tokens alone: it knows no trees.
func layout(tokens []lex.Token) string {
	var text strings.Builder
	depth, inType, lineBegins, afterBlank := 0, false, true, true
	last := lex.Token{}
	for i, token := range tokens {
		if token.Text == "}" && !inType {
			depth--
		}
		switch {
		case lineBegins && last.Text == "}" && token.Text == "else":
			text.WriteString(" ")
		case lineBegins && i > 0:
			text.WriteString("\n" + strings.Repeat("    ", depth))
		case lineBegins || strings.Contains(" , ; ) ] ( [ : ", " "+token.Text+" ") || !afterBlank:
		default:
			text.WriteString(" ")
		}
		text.WriteString(token.Text)
		inType = inType && token.Text != ";" || token.Text == "type"
		lineBegins = token.Text == ";" || !inType && (token.Text == "{" || token.Text == "}")
		// A minus behind anything but a name is a number's own.
		afterBlank = token.Text != "(" && token.Text != "[" && token.Text != "&" && (token.Text != "-" || last.Kind == lex.Word)
		if token.Text == "{" && !inType {
			depth++
		}
		last = token
	}
	if len(tokens) > 0 {
		text.WriteString("\n")
	}
	return text.String()
}

// holdText: all that P3.1 says of what is read from a text. It tells whether the text was read.
func holdText(t *testing.T, text string) bool {
	t.Helper()
	n, _, e := Parse(text)
	if e != api.OK {
		return false
	}
	shown := Show(n)
	if strings.Contains(shown, "?") {
		t.Fatalf("P3.1: %q: ? in %q", text, shown)
	}
	tokens, _, _ := lex.Tokens(text)
	if want := layout(plain(tokens)); shown != want {
		t.Fatalf("P3.1: %q:\n got %q\nwant %q", text, shown, want)
	}
	again, at, e := Parse(shown)
	if len(shown) > api.MaxText {
		if e != api.ErrLong {
			t.Fatalf("P3.1: a text of %d bytes is read", len(shown))
		}
		return true
	}
	if e != api.OK || at != 0 || !sameButPlaces(n, again) {
		t.Fatalf("P3.1: %q: %q is read as another tree, error %d at %d", text, shown, e, at)
	}
	if third := Show(again); third != shown {
		t.Fatalf("P3.1: %q: %q, then %q", text, shown, third)
	}
	return true
}

func sampleTexts() []string {
	return []string{
		"",
		"type vec own{len,cap,d[cap]}where 0<=len,len<=cap;type c counted m{n}where 0<n;type g guard c;",
		"fn get(v:&vec,i:int)->int{n=v[0];if i<n{d=v[2];return d;}else{abort;}}",
		"fn new_vec()->own vec{p=new 3;p[z+1]=-3;q=array n;free q;p[-0]=x-0;}",
		"fn run(w:own l,u:& mut g){lock w[0];unlock w[1];fork f(x,1);f(y-1);z=g();y=& mut x;v=&x;f(-1,-0,x+0);}",
		"fn sum(){while z==0{z=z-z;z=z+z;z=z-1;if -1<-1{}else{}if 0<=z{}else{if 1<2{}else{}}}return;}",
		"fn deep(){while 1<2{while 1<2{while 1<2{while 1<2{while 1<2{while 1<2{if 1<2{return -1;}else{return x-1;}}}}}}}}",
	}
}

func TestP31SamplesAgain(t *testing.T) {
	for _, text := range sampleTexts() {
		if !holdText(t, text) {
			t.Errorf("%q isn't read", text)
		}
	}
	if !holdText(t, strings.Join(sampleTexts(), "# a remark\n")) {
		t.Errorf("the samples together aren't read")
	}
}

// TestP31TooLong: a tree whose text is too long to be read is shown whole.
func TestP31TooLong(t *testing.T) {
	text := "fn f(){" + strings.Repeat("x=y-z;", 1000) + "}"
	n, _, e := Parse(text)
	if e != api.OK {
		t.Fatalf("error %d", e)
	}
	want := "fn f() {\n" + strings.Repeat("    x = y - z;\n", 1000) + "}\n"
	if Show(n) != want {
		t.Errorf("P3.1: a long text isn't shown whole")
	}
	text = "fn f(){" + strings.Repeat("while 1<2{", 7) + strings.Repeat("x=1;", 2000) + strings.Repeat("}", 8)
	if !holdText(t, text) {
		t.Errorf("a text of many statements isn't read")
	}
}

// chooser makes trees as Parse gives them, but for places; what it chooses is the same at each run.
type chooser struct {
	*rand.Rand
	depth int
}

func (c *chooser) name() string {
	names := [...]string{"x", "y", "_", "vec", "owner", "a_name_of_16_byt", "f1", "ints", "lock_", "elses"}
	return names[c.Intn(len(names))]
}

func (c *chooser) number() int64 {
	numbers := [...]int64{0, 0, 1, 2, 10, 1 << 20, api.MaxNum - 1, api.MaxNum}
	return numbers[c.Intn(len(numbers))]
}

func (c *chooser) text(choices ...string) string { return choices[c.Intn(len(choices))] }

func (c *chooser) nameTerm() Node { return name(c.name()) }

func (c *chooser) term() Node {
	n := Node{Kind: Term, Num: c.number()}
	if c.Intn(2) == 0 {
		n.Num = -n.Num
	}
	if c.Intn(3) > 0 {
		n.Text = c.name()
	}
	return n
}

func (c *chooser) several(least int, item func() Node) []Node {
	var items []Node
	for range least + c.Intn(3) {
		items = append(items, item())
	}
	return items
}

func (c *chooser) compared(kind Kind, behind ...Node) Node {
	return node(kind, c.text("<", "<=", "=="), append([]Node{c.term(), c.term()}, behind...)...)
}

func (c *chooser) unit() Node {
	return node(Unit, "", c.several(0, func() Node {
		if c.Intn(2) == 0 {
			return c.typeNode()
		}
		return c.fn()
	})...)
}

func (c *chooser) typeNode() Node {
	sort := node(Sort, c.text("own", "cell"))
	if c.Intn(2) == 0 {
		sort = node(Sort, c.text("counted", "lock", "guard"), c.nameTerm())
	}
	kids := []Node{sort}
	kids = append(kids, c.several(0, func() Node {
		if c.Intn(2) == 0 {
			return node(Field, c.name())
		}
		return node(Field, c.name(), c.nameTerm())
	})...)
	kids = append(kids, c.several(0, func() Node { return c.compared(Fact) })...)
	return node(Type, c.name(), kids...)
}

func (c *chooser) mode(choices ...string) Node {
	text := c.text(choices...)
	if text == "int" || text == "" {
		return node(Mode, text)
	}
	return node(Mode, text, c.nameTerm())
}

func (c *chooser) fn() Node {
	kids := c.several(0, func() Node { return node(Param, c.name(), c.mode("int", "own", "&", "&mut")) })
	return node(Fn, c.name(), append(kids, c.mode("int", "own", ""), c.block())...)
}

func (c *chooser) block() Node {
	c.depth++
	n := block(c.several(c.Intn(3), c.statement)...)
	c.depth--
	return n
}

func (c *chooser) statement() Node {
	kinds := [...]Kind{Set, Set, Set, Store, Free, Lock, Unlock, Return, Abort, Fork, Do, If, If, While, While}
	kind := kinds[c.Intn(len(kinds))]
	switch {
	case kind == Set:
		return node(Set, c.name(), c.expression())
	case kind == Store:
		return node(Store, c.name(), c.term(), c.term())
	case kind == Lock || kind == Unlock:
		return Node{Kind: kind, Text: c.name(), Num: c.number()}
	case kind == Return && c.Intn(2) == 0:
		return node(Return, "", c.term())
	case kind == Return:
		return node(Return, "")
	case kind == Fork:
		return node(Fork, c.name(), c.several(0, c.term)...)
	case kind == Do:
		return node(Do, "", node(Call, c.name(), c.several(0, c.term)...))
	case kind == If && c.depth < api.MaxNest:
		return c.compared(If, c.block(), c.block())
	case kind == While && c.depth < api.MaxNest:
		return c.compared(While, c.block())
	case kind == Free:
		return node(Free, c.name())
	}
	return node(Abort, "")
}

func (c *chooser) expression() Node {
	kinds := [...]Kind{Term, Sum, Less, New, Array, Load, Ref, MutRef, Call}
	switch kind := kinds[c.Intn(len(kinds))]; kind {
	case Sum, Less:
		return node(kind, "", c.nameTerm(), c.nameTerm())
	case New:
		return Node{Kind: New, Num: c.number()}
	case Load:
		return node(Load, c.name(), c.term())
	case Call:
		return node(Call, c.name(), c.several(0, c.term)...)
	case Array, Ref, MutRef:
		return node(kind, c.name())
	}
	return c.term()
}

// respace: the tokens of a text with other things between them.
func (c *chooser) respace(text string) string {
	tokens, _, _ := lex.Tokens(text)
	var out strings.Builder
	for _, token := range tokens {
		out.WriteString(c.text(" ", "\n", "  ", " # ?\n") + token.Text)
	}
	return out.String()
}

func TestP31TreesAgain(t *testing.T) {
	read, respaced, withElse := 0, 0, 0
	for seed := range int64(4000) {
		c := &chooser{Rand: rand.New(rand.NewSource(seed))}
		tree := c.unit()
		text := Show(tree)
		if Size(tree) > api.MaxNodes || len(text) > api.MaxText {
			continue
		}
		again, at, e := Parse(text)
		if e != api.OK || !sameButPlaces(tree, again) {
			t.Fatalf("P3.1: %q is read as another tree, error %d at %d", text, e, at)
		}
		holdText(t, text)
		read++
		if strings.Contains(text, "} else {") {
			withElse++
		}
		if other := c.respace(text); len(other) <= api.MaxText {
			wantText(t, other, text)
			respaced++
		}
	}
	if read < 3000 || respaced < 2500 || withElse < 500 {
		t.Errorf("%d texts read, %d spaced otherwise, %d with an else: not enough to tell", read, respaced, withElse)
	}
}

func FuzzShow(f *testing.F) {
	for _, text := range sampleTexts() {
		f.Add(text)
	}
	f.Fuzz(func(t *testing.T, text string) { holdText(t, text) })
}
