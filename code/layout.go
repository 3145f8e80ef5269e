package code

import "lychgate/syntax"

// layout is the instructions that are laid out so far. All blocks go into the one list, so that the number of the instruction that comes next is known everywhere.
type layout struct {
	list []Instr
}

func (l *layout) next() int { return len(l.list) }

// put: the number of the instruction that was put behind all others.
func (l *layout) put(i Instr) int {
	l.list = append(l.list, i)
	return l.next() - 1
}

func (l *layout) block(n syntax.Node) {
	for _, kid := range n.Kids {
		l.statement(kid)
	}
}

func (l *layout) statement(n syntax.Node) {
	switch n.Kind {
	case syntax.If:
		l.ifNode(n)
	case syntax.While:
		l.while(n)
	case syntax.Set:
		l.put(set(n))
	default:
		if i, ok := simple(n); ok {
			l.put(i)
		}
	}
}

func (l *layout) ifNode(n syntax.Node) {
	choice := l.put(branch(n))
	l.block(kidOf(n, 2))
	jump := l.put(Instr{Op: Jump, At: n.At})
	l.list[choice].To = l.next()
	l.block(kidOf(n, 3))
	l.list[jump].To = l.next()
}

func (l *layout) while(n syntax.Node) {
	choice := l.put(branch(n))
	l.block(kidOf(n, 2))
	l.put(Instr{Op: Jump, At: n.At, To: choice})
	l.list[choice].To = l.next()
}
