package syntax

import "lychgate/lex"

// sum is what a sign behind a name makes of what follows it.
type sum struct {
	kind   Kind  // of the node, before a name
	factor int64 // of the number, before a number
}

func sums() map[string]sum {
	return map[string]sum{"+": {Sum, 1}, "-": {Less, -1}}
}

// acceptSum: the sign of a sum, if one is next. In whatever order the map is gone through, at most one of its signs is the next token.
func (p *parser) acceptSum() (sum, bool) {
	for sign, s := range sums() {
		if p.accept(sign) {
			return s, true
		}
	}
	return sum{}, false
}

func (p *parser) nameTerm() Node {
	at := p.peek().At
	return Node{Kind: Term, Text: p.name(), At: at}
}

func (p *parser) term() Node {
	if p.peek().Kind != lex.Word {
		return p.numberTerm()
	}
	n := p.nameTerm()
	if s, found := p.acceptSum(); found {
		n.Num = s.factor * p.number()
	}
	return n
}

func (p *parser) numberTerm() Node {
	n := Node{Kind: Term, At: p.peek().At}
	if p.accept("-") {
		n.Num = -p.number()
	} else {
		n.Num = p.number()
	}
	return n
}

func (p *parser) expr() Node {
	at := p.peek().At
	switch {
	case p.accept("new"):
		return Node{Kind: New, Num: p.number(), At: at}
	case p.accept("array"):
		return Node{Kind: Array, Text: p.name(), At: at}
	case p.accept("&"):
		return p.refBehind(at)
	case p.peek().Kind == lex.Word:
		return p.nameExpr()
	}
	return p.numberTerm()
}

// refBehind: the loan whose sign was passed over at a place.
func (p *parser) refBehind(at int) Node {
	kind := Ref
	if p.accept("mut") {
		kind = MutRef
	}
	return Node{Kind: kind, Text: p.name(), At: at}
}

// nameExpr: an expression that begins with a name. Only what stands behind the name, or behind the sign that follows it, tells which.
func (p *parser) nameExpr() Node {
	n := p.nameTerm()
	switch {
	case p.is("["):
		return Node{Kind: Load, Text: n.Text, At: n.At, Kids: []Node{p.index()}}
	case p.is("("):
		return p.callOf(n)
	}
	s, found := p.acceptSum()
	switch {
	case found && p.peek().Kind == lex.Word:
		return Node{Kind: s.kind, At: n.At, Kids: []Node{n, p.nameTerm()}}
	case found:
		n.Num = s.factor * p.number()
	}
	return n
}

// index: a term in brackets.
func (p *parser) index() Node {
	p.expect("[")
	n := p.term()
	p.expect("]")
	return n
}

// callOf: the call of a name that was passed over.
func (p *parser) callOf(name Node) Node {
	return Node{Kind: Call, Text: name.Text, At: name.At, Kids: p.inParens(p.term)}
}
