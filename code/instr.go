package code

import "lychgate/syntax"

// kidOf: the kid of that number. A Return may lack its Term, and trees made by hand anything: the zero Node in its place keeps every call from a panic.
func kidOf(n syntax.Node, i int) syntax.Node {
	if i < 0 || i >= len(n.Kids) {
		return syntax.Node{}
	}
	return n.Kids[i]
}

func term(n syntax.Node) Term { return Term{Name: n.Text, Num: n.Num} }

// termOf: the term of the kid of that number.
func termOf(n syntax.Node, i int) Term { return term(kidOf(n, i)) }

// termsOf: the terms of all kids.
func termsOf(n syntax.Node) []Term {
	terms := make([]Term, len(n.Kids))
	for i, kid := range n.Kids {
		terms[i] = term(kid)
	}
	return terms
}

// branch: the Branch of an If or While, whose To is known only when the block behind it is laid out.
func branch(n syntax.Node) Instr {
	return Instr{Op: Branch, At: n.At, X: n.Text, A: termOf(n, 0), B: termOf(n, 1)}
}

// set: the instruction of a Set, which its expression tells.
func set(n syntax.Node) Instr {
	from := kidOf(n, 0)
	i := Instr{Op: Set, At: n.At, X: n.Text}
	switch from.Kind {
	case syntax.Term:
		i.A = term(from)
	case syntax.Ref, syntax.MutRef:
		i.A = Term{Name: from.Text}
	case syntax.Sum:
		i.Op, i.A, i.B = Sum, termOf(from, 0), termOf(from, 1)
	case syntax.Less:
		i.Op, i.A, i.B = Less, termOf(from, 0), termOf(from, 1)
	case syntax.New:
		i.Op, i.A = New, Term{Num: from.Num}
	case syntax.Array:
		i.Op, i.A = Array, Term{Name: from.Text}
	case syntax.Load:
		i.Op, i.Y, i.A = Load, from.Text, termOf(from, 0)
	case syntax.Call:
		i.Op, i.Y, i.Args = Call, from.Text, termsOf(from)
	}
	return i
}

// simple: the instruction of a statement without a block or an expression; false, if the node is no such statement, as in trees made by hand.
func simple(n syntax.Node) (Instr, bool) {
	i := Instr{At: n.At}
	switch n.Kind {
	case syntax.Store:
		i.Op, i.Y, i.A, i.B = Store, n.Text, termOf(n, 0), termOf(n, 1)
	case syntax.Free:
		i.Op, i.Y = Free, n.Text
	case syntax.Lock:
		i.Op, i.Y, i.A = Lock, n.Text, Term{Num: n.Num}
	case syntax.Unlock:
		i.Op, i.Y, i.A = Unlock, n.Text, Term{Num: n.Num}
	case syntax.Do:
		call := kidOf(n, 0)
		i.Op, i.Y, i.Args = Call, call.Text, termsOf(call)
	case syntax.Fork:
		i.Op, i.Y, i.Args = Fork, n.Text, termsOf(n)
	case syntax.Return:
		i.Op, i.Has, i.A = Ret, len(n.Kids) > 0, termOf(n, 0)
	case syntax.Abort:
		i.Op = Abort
	default:
		return Instr{}, false
	}
	return i, true
}
