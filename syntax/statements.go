package syntax

import (
	"lychgate/api"
	"lychgate/lex"
)

func (p *parser) block() Node {
	open := p.expect("{")
	if p.depth == api.MaxNest {
		panic(fault{open.At, api.ErrNest})
	}
	p.depth++
	n := Node{Kind: Block, At: open.At}
	for !p.accept("}") {
		n.Kids = append(n.Kids, p.statement())
	}
	p.depth--
	return n
}

func (p *parser) statement() Node {
	at := p.peek().At
	switch {
	case p.accept("if"):
		return p.ifBehind(at)
	case p.accept("while"):
		n := p.compare(While, at)
		n.Kids = append(n.Kids, p.block())
		return n
	}
	n := p.simple()
	p.expect(";")
	return n
}

// ifBehind: the choice whose key word was passed over at a place.
func (p *parser) ifBehind(at int) Node {
	n := p.compare(If, at)
	n.Kids = append(n.Kids, p.block())
	other := Node{Kind: Block, At: at}
	if p.accept("else") {
		other = p.block()
	}
	n.Kids = append(n.Kids, other)
	return n
}

// simple: a statement without a block, up to its semicolon.
func (p *parser) simple() Node {
	at := p.peek().At
	switch {
	case p.peek().Kind == lex.Word:
		return p.named()
	case p.accept("free"):
		return Node{Kind: Free, Text: p.name(), At: at}
	case p.accept("lock"):
		return p.lockBehind(Lock, at)
	case p.accept("unlock"):
		return p.lockBehind(Unlock, at)
	case p.accept("return"):
		return p.returnBehind(at)
	case p.accept("abort"):
		return Node{Kind: Abort, At: at}
	case p.accept("fork"):
		return Node{Kind: Fork, Text: p.name(), At: at, Kids: p.inParens(p.term)}
	}
	panic(p.misplaced())
}

// named: a statement that begins with a name.
func (p *parser) named() Node {
	name := p.nameTerm()
	switch {
	case p.is("("):
		return Node{Kind: Do, At: name.At, Kids: []Node{p.callOf(name)}}
	case p.is("["):
		index := p.index()
		p.expect("=")
		return Node{Kind: Store, Text: name.Text, At: name.At, Kids: []Node{index, p.term()}}
	}
	p.expect("=")
	return Node{Kind: Set, Text: name.Text, At: name.At, Kids: []Node{p.expr()}}
}

// lockBehind: what is done with the lock, its key word passed over at a place.
func (p *parser) lockBehind(kind Kind, at int) Node {
	n := Node{Kind: kind, Text: p.name(), At: at}
	p.expect("[")
	n.Num = p.number()
	p.expect("]")
	return n
}

// returnBehind: the return whose key word was passed over at a place.
func (p *parser) returnBehind(at int) Node {
	n := Node{Kind: Return, At: at}
	if !p.is(";") {
		n.Kids = []Node{p.term()}
	}
	return n
}
