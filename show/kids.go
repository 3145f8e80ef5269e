package show

import (
	"math"
	"slices"

	"lychgate/syntax"
)

// part is a run of kids next to one another, each of one of its kinds.
type part struct {
	least, most int
	kinds       []syntax.Kind
}

func one(kinds ...syntax.Kind) part { return part{1, 1, kinds} }

func atMostOne(kinds ...syntax.Kind) part { return part{0, 1, kinds} }

func several(kinds ...syntax.Kind) part { return part{0, math.MaxInt, kinds} }

// fit: are the kids these parts, in this order, and nothing else? Each part takes as many as it may: what a part of several takes, no part behind it could.
func fit(kids []syntax.Node, parts ...part) bool {
	for _, p := range parts {
		n := 0
		for n < len(kids) && n < p.most && slices.Contains(p.kinds, kids[n].Kind) {
			n++
		}
		if n < p.least {
			return false
		}
		kids = kids[n:]
	}
	return len(kids) == 0
}

// isWhole: is the node of a kind of layer 2's table, with kids as that table has them? What the kids hold isn't asked: they are shown by themselves.
func isWhole(n syntax.Node) bool {
	term := one(syntax.Term)
	switch n.Kind {
	case syntax.Unit:
		return fit(n.Kids, several(syntax.Type, syntax.Fn))
	case syntax.Type:
		return fit(n.Kids, one(syntax.Sort), several(syntax.Field), several(syntax.Fact))
	case syntax.Sort, syntax.Field, syntax.Mode, syntax.Return:
		return fit(n.Kids, atMostOne(syntax.Term))
	case syntax.Fact, syntax.Store, syntax.Sum, syntax.Less:
		return fit(n.Kids, term, term)
	case syntax.Fn:
		return fit(n.Kids, several(syntax.Param), one(syntax.Mode), one(syntax.Block))
	case syntax.Param:
		return fit(n.Kids, one(syntax.Mode))
	case syntax.Block:
		return fit(n.Kids, several(syntax.Set, syntax.Store, syntax.Free, syntax.Lock, syntax.Unlock, syntax.If,
			syntax.While, syntax.Return, syntax.Abort, syntax.Fork, syntax.Do))
	case syntax.Set:
		return fit(n.Kids, one(syntax.Term, syntax.Sum, syntax.Less, syntax.New, syntax.Array, syntax.Load, syntax.Ref,
			syntax.MutRef, syntax.Call))
	case syntax.If:
		return fit(n.Kids, term, term, one(syntax.Block), one(syntax.Block))
	case syntax.While:
		return fit(n.Kids, term, term, one(syntax.Block))
	case syntax.Do:
		return fit(n.Kids, one(syntax.Call))
	case syntax.Load:
		return fit(n.Kids, term)
	case syntax.Fork, syntax.Call:
		return fit(n.Kids, several(syntax.Term))
	case syntax.Term, syntax.Free, syntax.Lock, syntax.Unlock, syntax.Abort, syntax.New, syntax.Array, syntax.Ref, syntax.MutRef:
		return fit(n.Kids)
	}
	return false
}
