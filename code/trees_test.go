package code

import (
	"math"
	"reflect"
	"slices"
	"testing"

	"lychgate/syntax"
)

// sampleText has every kind of statement and of expression.
const sampleText = `fn f(a: int, b: own t, c: &t, d: &mut t) -> int {
    x = 1; x = a + 2; x = a + x; x = a - x; p = new 3; q = array x; y = p[x]; r = &b; w = &mut b; z = g(x, 1, x - 2);
    p[x] = y; free p; lock d[1]; unlock d[1]; h(); h(x, 3); fork k(x, b);
    if x < 1 { x = 2; if x == 3 { } else { abort; } } else { while 1 <= x { y = 2; while a < 2 { } } }
    return; return x;
}`

func copyNode(n syntax.Node) syntax.Node {
	n.Kids = slices.Clone(n.Kids)
	for i, kid := range n.Kids {
		n.Kids[i] = copyNode(kid)
	}
	return n
}

// changedAt: a copy of the tree in which the node of that number, counted from the root on, is changed.
func changedAt(n syntax.Node, number int, change func(*syntax.Node)) syntax.Node {
	out := copyNode(n)
	left := number
	var find func(n *syntax.Node)
	find = func(n *syntax.Node) {
		if left == 0 {
			change(n)
		}
		left--
		for i := 0; i < len(n.Kids) && left >= 0; i++ {
			find(&n.Kids[i])
		}
	}
	find(&out)
	return out
}

// TestP71TreesByHand: each node of a sample with kids left out, put twice or in another order, and of each other Kind. That the calls end is all that is wanted.
func TestP71TreesByHand(t *testing.T) {
	fn := mustParse(t, sampleText).Kids[0]
	for number := range syntax.Size(fn) {
		for _, change := range []func(n *syntax.Node){
			func(n *syntax.Node) { n.Kids = nil },
			func(n *syntax.Node) { n.Kids = append(n.Kids, n.Kids...) },
			func(n *syntax.Node) { n.Kids = append(n.Kids, syntax.Node{}) },
			func(n *syntax.Node) { slices.Reverse(n.Kids) },
			func(n *syntax.Node) { n.Text = "" },
			func(n *syntax.Node) { n.Num, n.At, n.Text = math.MinInt64, math.MinInt, "\xff {" },
			func(n *syntax.Node) { n.Num, n.At = math.MaxInt64, math.MaxInt },
			func(n *syntax.Node) { n.Kids = n.Kids[:len(n.Kids)/2] },
			func(n *syntax.Node) { n.Kids = n.Kids[len(n.Kids)/2:] },
			func(n *syntax.Node) { n.Kids = n.Kids[min(1, len(n.Kids)):] },
			func(n *syntax.Node) { n.Kids = n.Kids[:max(1, len(n.Kids))-1] },
		} {
			Lower(changedAt(fn, number, change))
		}
		for _, kind := range everyKind() {
			Lower(changedAt(fn, number, func(n *syntax.Node) { n.Kind = kind }))
			Lower(changedAt(fn, number, func(n *syntax.Node) { n.Kind, n.Kids = kind, nil }))
			Lower(changedAt(fn, number, func(n *syntax.Node) { n.Kids = append([]syntax.Node{{Kind: kind}}, n.Kids...) }))
		}
	}
}

// TestP71KidsByHand: a statement of each Kind whose kids, none to five of them, are of each Kind and have kids or not.
func TestP71KidsByHand(t *testing.T) {
	for _, kind := range everyKind() {
		for _, of := range everyKind() {
			for many := range 6 {
				bare := syntax.Node{Kind: of, Text: "x", Num: 1, At: 2}
				full := bare
				full.Kids = slices.Repeat([]syntax.Node{bare}, many)
				for _, kid := range []syntax.Node{bare, full} {
					n := syntax.Node{Kind: kind, Text: "y", At: 3, Kids: slices.Repeat([]syntax.Node{kid}, many)}
					block := syntax.Node{Kind: syntax.Block, Kids: []syntax.Node{n}}
					Lower(n)
					Lower(syntax.Node{Kind: syntax.Fn, Kids: n.Kids})
					Lower(syntax.Node{Kind: syntax.Fn, Kids: []syntax.Node{n}})
					Lower(syntax.Node{Kind: syntax.Fn, Kids: []syntax.Node{{Kind: syntax.Mode}, block}})
				}
			}
		}
	}
	Lower(syntax.Node{Kind: syntax.Fn})
	Lower(syntax.Node{Kind: syntax.Fn, Kids: []syntax.Node{}})
}

// TestP71DeepByHand: as deep as the document's bound lets a tree be.
func TestP71DeepByHand(t *testing.T) {
	for _, kind := range everyKind() {
		block := syntax.Node{Kind: syntax.Block}
		for range 1<<15 - 1 {
			n := syntax.Node{Kind: kind, Text: "<", Kids: []syntax.Node{{Kind: syntax.Term}, {Kind: syntax.Term}, block}}
			block = syntax.Node{Kind: syntax.Block, Kids: []syntax.Node{n}}
		}
		Lower(syntax.Node{Kind: syntax.Fn, Kids: []syntax.Node{{Kind: syntax.Mode}, block}})
	}
}

// TestP71PartsOfTrees: the kids that lie behind a list's length aren't read, and an empty list may be nil or not (rule 4).
func TestP71PartsOfTrees(t *testing.T) {
	fn := mustParse(t, "fn f(x:int,y:int){g(1,2);abort;free x;}").Kids[0]
	fn.Kids[3].Kids = fn.Kids[3].Kids[:2]
	call := &fn.Kids[3].Kids[0].Kids[0]
	call.Kids = call.Kids[:1]
	want := Code{Name: "f", Params: []string{"x", "y"}, List: []Instr{{Op: Call, At: 18, Y: "g", Args: []Term{{"", 1}}}, {Op: Abort, At: 25}, {Op: Ret, At: 17}}}
	if got := Lower(fn); !sameCode(got, want) {
		t.Errorf("rule 4: %v, want %v", got, want)
	}
	call.Kids = call.Kids[:0]
	want.List[0].Args = nil
	if got := Lower(fn); !sameCode(got, want) {
		t.Errorf("rule 4: %v, want %v", got, want)
	}
	fn.Kids[3].Kids = fn.Kids[3].Kids[:0]
	want.List = want.List[2:]
	if got := Lower(fn); !sameCode(got, want) {
		t.Errorf("rule 4: %v, want %v", got, want)
	}
}

func copyCode(c Code) Code {
	c.Params, c.List = slices.Clone(c.Params), slices.Clone(c.List)
	for i := range c.List {
		c.List[i].Args = slices.Clone(c.List[i].Args)
	}
	return c
}

// spoil writes over all of a list's memory, also what lies behind its length.
func spoil[T any](list []T, with T) {
	list = list[:cap(list)]
	for i := range list {
		list[i] = with
	}
}

// TestP71Memory: what is handed in is neither changed nor kept, and no list of an answer shares memory with another one (rule 4).
func TestP71Memory(t *testing.T) {
	fn := mustParse(t, sampleText).Kids[0]
	before := copyNode(fn)
	c, other := Lower(fn), Lower(fn)
	want := copyCode(c)
	if !reflect.DeepEqual(fn, before) || !sameCode(c, other) {
		t.Errorf("rule 4: the tree is %v, was %v", fn, before)
	}
	var change func(n *syntax.Node)
	change = func(n *syntax.Node) {
		for i := range n.Kids {
			change(&n.Kids[i])
		}
		*n = syntax.Node{Kind: syntax.Call, Text: "?", Num: -7, At: -7}
	}
	change(&fn)
	if !sameCode(c, want) {
		t.Errorf("rule 4: the code changes with the tree: %v, was %v", c, want)
	}
	for i := range c.List {
		spoil(c.List[i].Args, Term{"?", -1})
		c.List[i].Args, want.List[i].Args = nil, nil
		if !sameCode(c, want) {
			t.Fatalf("rule 4: the Args of the instruction %d share memory with another list: %v, want %v", i, c, want)
		}
	}
	spoil(c.Params, "?")
	c.Params, want.Params = nil, nil
	if !sameCode(c, want) {
		t.Errorf("rule 4: the Params share memory with another list: %v, want %v", c, want)
	}
	spoil(c.List, Instr{Op: Abort, At: -1, Args: []Term{{"?", 1}}})
	if again := Lower(before); !sameCode(other, again) {
		t.Errorf("rule 4: two codes share memory: %v, want %v", other, again)
	}
}
