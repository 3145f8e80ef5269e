package show

import (
	"strconv"
	"strings"

	"lychgate/syntax"
)

// writer writes the texts of nodes behind one another: a text of its own for each node would be copied once for each node around it.
type writer struct {
	text  strings.Builder
	depth int // how many blocks are open
}

func (w *writer) put(pieces ...string) {
	for _, piece := range pieces {
		w.text.WriteString(piece)
	}
}

// indent begins a line.
func (w *writer) indent() {
	for range w.depth {
		w.put("    ")
	}
}

func (w *writer) show(n syntax.Node) {
	kid := func(i int) { w.show(n.Kids[i]) }
	switch {
	case !isWhole(n):
		w.put("?")
	case n.Kind < syntax.Block:
		w.declaration(n, kid)
	case n.Kind < syntax.Sum:
		w.statement(n, kid)
	default:
		w.expression(n, kid)
	}
}

// list: some kids, with commas between.
func (w *writer) list(from, to int, kid func(int)) {
	for i := from; i < to; i++ {
		if i > from {
			w.put(", ")
		}
		kid(i)
	}
}

// maybeKid: the first kid between two texts, if there is one.
func (w *writer) maybeKid(n syntax.Node, ahead, behind string, kid func(int)) {
	if len(n.Kids) > 0 {
		w.put(ahead)
		kid(0)
		w.put(behind)
	}
}

// compare: the first two kids with the node's cmp between.
func (w *writer) compare(n syntax.Node, kid func(int)) {
	kid(0)
	w.put(" ", n.Text, " ")
	kid(1)
}

// call: the node's name, and its kids in parentheses.
func (w *writer) call(n syntax.Node, kid func(int)) {
	w.put(n.Text, "(")
	w.list(0, len(n.Kids), kid)
	w.put(")")
}

// declaration: what stands outside of blocks, and Terms, which stand everywhere.
func (w *writer) declaration(n syntax.Node, kid func(int)) {
	switch n.Kind {
	case syntax.Unit:
		for i := range n.Kids {
			kid(i)
			w.put("\n")
		}
	case syntax.Type:
		w.typeNode(n, kid)
	case syntax.Sort:
		w.put(n.Text)
		w.maybeKid(n, " ", "", kid)
	case syntax.Field:
		w.put(n.Text)
		w.maybeKid(n, "[", "]", kid)
	case syntax.Fact:
		w.compare(n, kid)
	case syntax.Term:
		w.term(n)
	case syntax.Fn:
		w.fn(n, kid)
	case syntax.Param:
		w.put(n.Text, ": ")
		kid(0)
	case syntax.Mode:
		w.mode(n, kid)
	}
}

func (w *writer) typeNode(n syntax.Node, kid func(int)) {
	w.put("type ", n.Text, " ")
	kid(0)
	facts := 1
	for facts < len(n.Kids) && n.Kids[facts].Kind == syntax.Field {
		facts++
	}
	if facts > 1 {
		w.put(" { ")
		w.list(1, facts, kid)
		w.put(" }")
	}
	if facts < len(n.Kids) {
		w.put(" where ")
		w.list(facts, len(n.Kids), kid)
	}
	w.put(";")
}

func (w *writer) term(n syntax.Node) {
	digits := strconv.FormatInt(n.Num, 10)
	switch {
	case n.Text == "":
		w.put(digits)
	case n.Num > 0:
		w.put(n.Text, " + ", digits)
	case n.Num < 0:
		// The sign is cut off the digits: the least number has no opposite.
		w.put(n.Text, " - ", digits[1:])
	default:
		w.put(n.Text)
	}
}

func (w *writer) fn(n syntax.Node, kid func(int)) {
	result := len(n.Kids) - 2
	w.put("fn ", n.Text, "(")
	w.list(0, result, kid)
	w.put(")")
	if n.Kids[result].Text != "" {
		w.put(" -> ")
		kid(result)
	}
	w.put(" ")
	kid(result + 1)
}

func (w *writer) mode(n syntax.Node, kid func(int)) {
	w.put(n.Text)
	switch n.Text {
	case "own", "&mut":
		// The chapter leaves out the name alone where there is no Term: the blank stays.
		w.put(" ")
		w.maybeKid(n, "", "", kid)
	case "&":
		w.maybeKid(n, "", "", kid)
	}
}

func (w *writer) block(n syntax.Node, kid func(int)) {
	w.put("{\n")
	w.depth++
	for i := range n.Kids {
		w.indent()
		kid(i)
		w.put("\n")
	}
	w.depth--
	w.indent()
	w.put("}")
}

// statement: a block, or what stands in one.
func (w *writer) statement(n syntax.Node, kid func(int)) {
	switch n.Kind {
	case syntax.Block:
		w.block(n, kid)
	case syntax.If:
		w.ifNode(n, kid)
	case syntax.While:
		w.put("while ")
		w.compare(n, kid)
		w.put(" ")
		kid(2)
	default:
		w.simple(n, kid)
		w.put(";")
	}
}

func (w *writer) ifNode(n syntax.Node, kid func(int)) {
	w.put("if ")
	w.compare(n, kid)
	w.put(" ")
	kid(2)
	if len(n.Kids[3].Kids) > 0 {
		w.put(" else ")
		kid(3)
	}
}

// simple: a statement without a block, up to its semicolon.
func (w *writer) simple(n syntax.Node, kid func(int)) {
	switch n.Kind {
	case syntax.Set:
		w.put(n.Text, " = ")
		kid(0)
	case syntax.Store:
		w.put(n.Text, "[")
		kid(0)
		w.put("] = ")
		kid(1)
	case syntax.Free:
		w.put("free ", n.Text)
	case syntax.Lock:
		w.put("lock ", n.Text, "[", strconv.FormatInt(n.Num, 10), "]")
	case syntax.Unlock:
		w.put("unlock ", n.Text, "[", strconv.FormatInt(n.Num, 10), "]")
	case syntax.Return:
		w.put("return")
		w.maybeKid(n, " ", "", kid)
	case syntax.Abort:
		w.put("abort")
	case syntax.Fork:
		w.put("fork ")
		w.call(n, kid)
	case syntax.Do:
		kid(0)
	}
}

// expression: what stands behind the = of a Set and is no Term.
func (w *writer) expression(n syntax.Node, kid func(int)) {
	switch n.Kind {
	case syntax.Sum:
		kid(0)
		w.put(" + ")
		kid(1)
	case syntax.Less:
		kid(0)
		w.put(" - ")
		kid(1)
	case syntax.New:
		w.put("new ", strconv.FormatInt(n.Num, 10))
	case syntax.Array:
		w.put("array ", n.Text)
	case syntax.Load:
		w.put(n.Text, "[")
		kid(0)
		w.put("]")
	case syntax.Ref:
		w.put("&", n.Text)
	case syntax.MutRef:
		w.put("&mut ", n.Text)
	case syntax.Call:
		w.call(n, kid)
	}
}
