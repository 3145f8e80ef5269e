package state

import (
	"math/rand"
	"testing"

	"lychgate/api"
	"lychgate/link"
	"lychgate/syntax"
)

// parts: a tree, and all nodes below it.
func parts(n syntax.Node) []syntax.Node {
	all := []syntax.Node{n}
	for _, kid := range n.Kids {
		all = append(all, parts(kid)...)
	}
	return all
}

// mixed: the tree, in which some statements, expressions and terms are parts of other trees, and some names others.
func mixed(r *rand.Rand, n syntax.Node, from []syntax.Node) syntax.Node {
	kids := make([]syntax.Node, len(n.Kids))
	for i, kid := range n.Kids {
		kids[i] = mixed(r, kid, from)
		if n.Kind != syntax.Unit && r.Intn(40) == 0 {
			kids[i] = from[r.Intn(len(from))]
		}
	}
	n.Kids = kids
	if n.Kind > syntax.Param && r.Intn(60) == 0 {
		n.Text = []string{"", "i", "p", "f", "w", "<=", "a name\xff"}[r.Intn(7)]
	}
	return n
}

// TestTreesOfParts: images of trees that are put together of parts, with any names (rule 7), against the account.
func TestTreesOfParts(t *testing.T) {
	linked := 0
	for seed := range int64(4000) {
		r := rand.New(rand.NewSource(seed))
		a, b := draw(r)
		libs, client := mustParse(t, a), mustParse(t, b)
		from := append(parts(libs), parts(client)...)
		m, _, _, e := link.Link(mixed(r, libs, from), mixed(r, client, from))
		if e != api.OK {
			continue
		}
		linked++
		two := bothOf(r, m)
		for range 60 {
			two.step(t, pick(r))
		}
	}
	if linked < 400 {
		t.Errorf("only %d of the trees could be linked: not enough to tell", linked)
	}
}
