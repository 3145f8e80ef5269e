package code

import (
	"math/rand"
	"reflect"
	"slices"
	"strconv"
	"strings"
	"testing"

	"lychgate/api"
	"lychgate/syntax"
)

// back reads code back into the statements that it was made of: a second account of the chapter's table, from its other side. What a code doesn't tell is how its terms stood in the text, and whether one was a Ref or a MutRef.
type back struct {
	t    *testing.T
	list []Instr
}

// require ends the test where the code isn't of the chapter's form.
func (b *back) require(holds bool, at int) {
	b.t.Helper()
	if !holds {
		b.t.Fatalf("P7.1: at the instruction %d, %v, the code isn't of the chapter's form: %v", at, b.list[at], b.list)
	}
}

// take: the statement of a node of which an instruction was made, held to what Names tells of that.
func (b *back) take(at int, n syntax.Node) syntax.Node {
	b.t.Helper()
	n.At = b.list[at].At
	if got, want := Names(b.list[at]), readBy(n); !slices.Equal(got, want) {
		b.t.Fatalf("P7.2: %v: %q, want %q", b.list[at], got, want)
	}
	return n
}

// block: the statements of the instructions from one up to another.
func (b *back) block(from, to int) syntax.Node {
	b.t.Helper()
	n := syntax.Node{Kind: syntax.Block}
	for at := from; at < to; {
		if b.list[at].Op == Branch {
			var kid syntax.Node
			kid, at = b.branching(at, to)
			n.Kids = append(n.Kids, kid)
			continue
		}
		i := b.list[at]
		b.require(sameInstr(unnamed(i), Instr{}), at)
		n.Kids = append(n.Kids, b.take(at, statementOf(i)))
		at++
	}
	return n
}

// branching: the If or While of a Branch that stands ahead of to, and the number of the instruction behind it.
func (b *back) branching(at, to int) (syntax.Node, int) {
	b.t.Helper()
	i := b.list[at]
	b.require(at+1 < i.To && i.To <= to && sameInstr(unnamed(i), Instr{}), at)
	jump := b.list[i.To-1]
	b.require(sameInstr(jump, Instr{Op: Jump, At: i.At, To: jump.To}), i.To-1)
	n := syntax.Node{Kind: syntax.While, Text: i.X, Kids: []syntax.Node{nodeOf(i.A), nodeOf(i.B), b.block(at+1, i.To-1)}}
	if jump.To == at {
		return b.take(at, n), i.To
	}
	b.require(i.To <= jump.To && jump.To <= to, i.To-1)
	n.Kind = syntax.If
	n.Kids = append(n.Kids, b.block(i.To, jump.To))
	return b.take(at, n), jump.To
}

// named: the fields that the table's row names, besides Op and At: n is the number of A alone, m its Name alone, H Has and with it A, L the list of Args.
func named(op Op) string {
	return map[Op]string{
		Set: "XA", Sum: "XAB", Less: "XAB", New: "Xn", Array: "Xm", Load: "XYA", Store: "YAB", Free: "Y", Lock: "Yn", Unlock: "Yn",
		Branch: "XABT", Jump: "T", Call: "XYL", Fork: "YL", Ret: "H", Abort: "",
	}[op]
}

// unnamed: an instruction without what it has in the fields that the table's row names.
func unnamed(i Instr) Instr {
	for _, field := range named(i.Op) {
		switch field {
		case 'X':
			i.X = ""
		case 'Y':
			i.Y = ""
		case 'A':
			i.A = Term{}
		case 'B':
			i.B = Term{}
		case 'L':
			i.Args = nil
		case 'T':
			i.To = 0
		case 'n':
			i.A.Num = 0
		case 'm':
			i.A.Name = ""
		case 'H':
			if i.Has {
				i.Has, i.A = false, Term{}
			}
		}
	}
	i.Op, i.At = 0, 0
	return i
}

func nodeOf(t Term) syntax.Node { return syntax.Node{Kind: syntax.Term, Text: t.Name, Num: t.Num} }

func nodesOf(terms ...Term) []syntax.Node {
	var nodes []syntax.Node
	for _, t := range terms {
		nodes = append(nodes, nodeOf(t))
	}
	return nodes
}

// statementOf: the statement of an instruction that is of no If or While, without places.
func statementOf(i Instr) syntax.Node {
	whole := func(kind syntax.Kind, kids ...syntax.Node) syntax.Node {
		return syntax.Node{Kind: kind, Text: i.Y, Kids: kids}
	}
	set := func(from syntax.Node) syntax.Node {
		return syntax.Node{Kind: syntax.Set, Text: i.X, Kids: []syntax.Node{from}}
	}
	switch i.Op {
	case Set:
		return set(nodeOf(i.A))
	case Sum:
		return set(whole(syntax.Sum, nodesOf(i.A, i.B)...))
	case Less:
		return set(whole(syntax.Less, nodesOf(i.A, i.B)...))
	case New:
		return set(syntax.Node{Kind: syntax.New, Num: i.A.Num})
	case Array:
		return set(syntax.Node{Kind: syntax.Array, Text: i.A.Name})
	case Load:
		return set(whole(syntax.Load, nodeOf(i.A)))
	case Store:
		return whole(syntax.Store, nodesOf(i.A, i.B)...)
	case Free:
		return whole(syntax.Free)
	case Lock:
		return syntax.Node{Kind: syntax.Lock, Text: i.Y, Num: i.A.Num}
	case Unlock:
		return syntax.Node{Kind: syntax.Unlock, Text: i.Y, Num: i.A.Num}
	case Call:
		call := whole(syntax.Call, nodesOf(i.Args...)...)
		if i.X == "" {
			return syntax.Node{Kind: syntax.Do, Kids: []syntax.Node{call}}
		}
		return set(call)
	case Fork:
		return whole(syntax.Fork, nodesOf(i.Args...)...)
	case Ret:
		if i.Has {
			return whole(syntax.Return, nodeOf(i.A))
		}
		return whole(syntax.Return)
	case Abort:
		return whole(syntax.Abort)
	}
	// A Jump that belongs to no Branch is of no statement.
	return syntax.Node{Kind: -1}
}

// readBy: the names that a statement, an expression or a term reads, in the order of its text; of an If or While those of its comparison.
func readBy(n syntax.Node) []string {
	var names []string
	kids := n.Kids
	switch n.Kind {
	case syntax.Term, syntax.Load, syntax.Array, syntax.Store, syntax.Free, syntax.Lock, syntax.Unlock:
		if n.Text != "" {
			names = append(names, n.Text)
		}
	case syntax.If, syntax.While:
		kids = kids[:2]
	}
	for _, kid := range kids {
		names = append(names, readBy(kid)...)
	}
	return names
}

// told: as much of a node as a code tells; the places are those of statements alone.
func told(n syntax.Node) syntax.Node {
	out := n
	if n.Kind < syntax.Set || n.Kind > syntax.Do {
		out.At = 0
	}
	if n.Kind == syntax.Ref || n.Kind == syntax.MutRef {
		out.Kind = syntax.Term
	}
	out.Kids = nil
	for _, kid := range n.Kids {
		out.Kids = append(out.Kids, told(kid))
	}
	return out
}

// holdFn holds a function's code, and what Names tells of it, against the function.
func holdFn(t *testing.T, fn syntax.Node) Code {
	t.Helper()
	c := Lower(fn)
	params, body := fn.Kids[:len(fn.Kids)-2], fn.Kids[len(fn.Kids)-1]
	var names []string
	for _, param := range params {
		names = append(names, param.Text)
	}
	if c.Name != fn.Text || !slices.Equal(c.Params, names) || len(c.List) == 0 {
		t.Fatalf("P7.1: %v of %v", c, fn)
	}
	last := len(c.List) - 1
	if i := c.List[last]; !sameInstr(i, Instr{Op: Ret, At: body.At}) || len(Names(i)) > 0 {
		t.Fatalf("P7.1: the last instruction is %v; the block stands at %d", i, body.At)
	}
	b := back{t, c.List}
	if got, want := b.block(0, last), told(body); !reflect.DeepEqual(got, want) {
		t.Fatalf("P7.1: the code is %v:\n  of %v\nwant %v", c.List, got, want)
	}
	return c
}

// holdText: all that P7.1 and P7.2 say of a text's nodes. It tells the codes of its functions; none, if it isn't read.
func holdText(t *testing.T, text string) []Code {
	t.Helper()
	n, _, e := syntax.Parse(text)
	if e != api.OK {
		return nil
	}
	var codes []Code
	for _, kid := range n.Kids {
		if kid.Kind == syntax.Fn {
			codes = append(codes, holdFn(t, kid))
		} else if !sameCode(Lower(kid), Code{}) {
			t.Fatalf("P7.1: of a node that is no Fn: %v", Lower(kid))
		}
	}
	return codes
}

// drawer writes texts of functions; what it draws is the same at each run.
type drawer struct {
	*rand.Rand
	depth int
}

func (d *drawer) of(choices ...string) string { return choices[d.Intn(len(choices))] }

func (d *drawer) name() string { return d.of("x", "y", "z", "p", "_", "f", "a_name_of_16_byt") }

func (d *drawer) number() string { return strconv.Itoa(d.Intn(4)) }

func (d *drawer) term() string {
	switch d.Intn(4) {
	case 0:
		return d.of("", "-") + d.number()
	case 1:
		return d.name() + d.of("+", " - ") + d.number()
	}
	return d.name()
}

func (d *drawer) call() string {
	terms := make([]string, d.Intn(4))
	for i := range terms {
		terms[i] = d.term()
	}
	return d.name() + "(" + strings.Join(terms, ",") + ")"
}

func (d *drawer) expression() string {
	switch d.Intn(7) {
	case 0:
		return d.name() + d.of("+", "-") + d.name()
	case 1:
		return "new " + d.number()
	case 2:
		return "array " + d.name()
	case 3:
		return d.name() + "[" + d.term() + "]"
	case 4:
		return d.of("&", "& mut ") + d.name()
	case 5:
		return d.call()
	}
	return d.term()
}

func (d *drawer) statement() string {
	kind := d.Intn(14)
	switch {
	case kind < 3 && d.depth < api.MaxNest:
		text := "if " + d.term() + d.of("<", "<=", "==") + d.term() + d.block()
		return text + d.of("", "else "+d.block())
	case kind < 5 && d.depth < api.MaxNest:
		return "while " + d.term() + d.of("<", "<=", "==") + d.term() + d.block()
	case kind < 9:
		return d.name() + "=" + d.expression() + ";"
	case kind == 9:
		return d.name() + "[" + d.term() + "]=" + d.term() + ";"
	case kind == 10:
		return d.of("lock ", "unlock ") + d.name() + "[" + d.number() + "];"
	case kind == 11:
		return d.of("", "fork ") + d.call() + ";"
	case kind == 12:
		return "return " + d.of("", d.term()) + ";"
	}
	return d.of("abort", "free "+d.name()) + ";"
}

func (d *drawer) block() string {
	d.depth++
	text := "{" + d.of("", " ", "\n")
	for range d.Intn(5) {
		text += d.statement() + d.of("", " ", "\n", "# x = 1;\n")
	}
	d.depth--
	return text + "}"
}

// TestCodeReadBack: drawn functions.
func TestCodeReadBack(t *testing.T) {
	holdText(t, sampleText)
	ops := map[Op]int{}
	for seed := range int64(5000) {
		d := &drawer{Rand: rand.New(rand.NewSource(seed))}
		text := "fn " + d.name() + "(" + d.of("", "x:int", "y:own t,x:&t,y:int") + ")" + d.of("", "-> int", "->own t ") + d.block()
		if len(text) > api.MaxText {
			continue
		}
		codes := holdText(t, text)
		if len(codes) != 1 {
			t.Fatalf("%q isn't read", text)
		}
		for _, i := range codes[0].List {
			ops[i.Op]++
		}
	}
	for op := Set; op <= Abort; op++ {
		if ops[op] < 500 {
			t.Errorf("of the Op %d only %d instructions: not enough to tell", op, ops[op])
		}
	}
}

func FuzzLower(f *testing.F) {
	f.Add(sampleText)
	f.Add("type t own { a } where a < 1; fn f() { } fn g(x: int) { while 1 < 2 { if x < 1 { } } }")
	f.Fuzz(func(t *testing.T, text string) { holdText(t, text) })
}
