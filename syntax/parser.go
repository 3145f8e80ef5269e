package syntax

import (
	"lychgate/api"
	"lychgate/lex"
)

// fault is what the parser panics with, so that no line of the grammar has to hand it on.
type fault struct {
	at int
	e  api.Errno
}

// parser reads tokens from the left. None of its calls passes over the End, so that there always is a next token.
type parser struct {
	tokens []lex.Token
	next   int
	depth  int // how many blocks are open
}

func (p *parser) peek() lex.Token { return p.tokens[p.next] }

func (p *parser) take() lex.Token {
	t := p.peek()
	p.next++
	return t
}

func (p *parser) misplaced() fault { return fault{p.peek().At, api.ErrToken} }

// is: is the next token that key word or sign? The bytes alone tell, as no name or number has those of one.
func (p *parser) is(text string) bool { return p.peek().Text == text }

func (p *parser) accept(text string) bool {
	found := p.is(text)
	if found {
		p.next++
	}
	return found
}

// expect: the next token, which must be one of these key words or signs.
func (p *parser) expect(texts ...string) lex.Token {
	for _, text := range texts {
		if p.is(text) {
			return p.take()
		}
	}
	panic(p.misplaced())
}

func (p *parser) expectKind(kind lex.Kind) lex.Token {
	if p.peek().Kind != kind {
		panic(p.misplaced())
	}
	return p.take()
}

func (p *parser) name() string { return p.expectKind(lex.Word).Text }

func (p *parser) number() int64 { return p.expectKind(lex.Number).Num }

// list: one item or more, with commas between.
func (p *parser) list(item func() Node) []Node {
	items := []Node{item()}
	for p.accept(",") {
		items = append(items, item())
	}
	return items
}

// inParens: a list in parentheses, which may be empty.
func (p *parser) inParens(item func() Node) []Node {
	p.expect("(")
	if p.accept(")") {
		return nil
	}
	items := p.list(item)
	p.expect(")")
	return items
}

func (p *parser) unit() Node {
	n := Node{Kind: Unit}
	for p.peek().Kind != lex.End {
		n.Kids = append(n.Kids, p.declaration())
	}
	return n
}

func (p *parser) declaration() Node {
	switch t := p.expect("type", "fn"); t.Text {
	case "type":
		return p.typeBehind(t.At)
	default:
		return p.fnBehind(t.At)
	}
}

// typeBehind: the type whose key word was passed over at a place.
func (p *parser) typeBehind(at int) Node {
	n := Node{Kind: Type, Text: p.name(), At: at}
	n.Kids = append(n.Kids, p.sort())
	if p.accept("{") {
		n.Kids = append(n.Kids, p.list(p.field)...)
		p.expect("}")
	}
	if p.accept("where") {
		n.Kids = append(n.Kids, p.list(p.fact)...)
	}
	p.expect(";")
	return n
}

func (p *parser) sort() Node {
	t := p.expect("own", "cell", "counted", "lock", "guard")
	n := Node{Kind: Sort, Text: t.Text, At: t.At}
	if t.Text != "own" && t.Text != "cell" {
		n.Kids = []Node{p.nameTerm()}
	}
	return n
}

func (p *parser) field() Node {
	at := p.peek().At
	n := Node{Kind: Field, Text: p.name(), At: at}
	if p.accept("[") {
		n.Kids = []Node{p.nameTerm()}
		p.expect("]")
	}
	return n
}

func (p *parser) fact() Node { return p.compare(Fact, p.peek().At) }

// compare: a node of that kind and place with the cmp and the terms on both sides of it.
func (p *parser) compare(kind Kind, at int) Node {
	left := p.term()
	cmp := p.expect("<", "<=", "==")
	return Node{Kind: kind, Text: cmp.Text, At: at, Kids: []Node{left, p.term()}}
}

// fnBehind: the function whose key word was passed over at a place.
func (p *parser) fnBehind(at int) Node {
	n := Node{Kind: Fn, Text: p.name(), At: at}
	n.Kids = append(n.Kids, p.inParens(p.param)...)
	var result Node
	if p.accept("->") {
		result = p.valueMode()
	} else {
		result = Node{Kind: Mode, At: p.peek().At}
	}
	n.Kids = append(n.Kids, result, p.block())
	return n
}

func (p *parser) param() Node {
	at := p.peek().At
	n := Node{Kind: Param, Text: p.name(), At: at}
	p.expect(":")
	n.Kids = []Node{p.mode()}
	return n
}

func (p *parser) mode() Node {
	at := p.peek().At
	if !p.accept("&") {
		return p.valueMode()
	}
	text := "&"
	if p.accept("mut") {
		text = "&mut"
	}
	return Node{Kind: Mode, Text: text, At: at, Kids: []Node{p.nameTerm()}}
}

// valueMode: one of the modes that lend nothing, which are those of a result too.
func (p *parser) valueMode() Node {
	t := p.expect("int", "own")
	n := Node{Kind: Mode, Text: t.Text, At: t.At}
	if t.Text == "own" {
		n.Kids = []Node{p.nameTerm()}
	}
	return n
}
