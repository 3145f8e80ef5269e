package show

import (
	"math"
	"regexp"
	"slices"
	"strings"
	"testing"

	. "lychgate/syntax"
)

// kindNames are the kinds' names, in the chapter's order; the last one stands for every kind of no table.
const kindNames = "Unit Type Sort Field Fact Term Fn Param Mode Block Set Store Free Lock Unlock If While Return Abort Fork Do Sum Less New Array Load Ref MutRef Call Other"

const (
	statementNames  = "Set|Store|Free|Lock|Unlock|If|While|Return|Abort|Fork|Do"
	expressionNames = "Term|Sum|Less|New|Array|Load|Ref|MutRef|Call"
)

// kidTable is layer 2's table once more, with what layer 3 adds to it: which kids a kind has, as their names with a blank behind each.
const kidTable = `
Unit ((Type|Fn) )*
Type Sort (Field )*(Fact )*
Sort (Term )?
Field (Term )?
Fact Term Term 
Term 
Fn (Param )*Mode Block 
Param Mode 
Mode (Term )?
Block ((` + statementNames + `) )*
Set (` + expressionNames + `) 
Store Term Term 
Free 
Lock 
Unlock 
If Term Term Block Block 
While Term Term Block 
Return (Term )?
Abort 
Fork (Term )*
Do Call 
Sum Term Term 
Less Term Term 
New 
Array 
Load Term 
Ref 
MutRef 
Call (Term )*
`

// account is a second account of which kids a node has as layer 2 has them.
type account struct {
	names []string
	rows  map[string]*regexp.Regexp
	wrong int
	right int
}

func newAccount() *account {
	a := &account{names: strings.Fields(kindNames), rows: map[string]*regexp.Regexp{}}
	for _, row := range strings.Split(strings.Trim(kidTable, "\n"), "\n") {
		name, kids, _ := strings.Cut(row, " ")
		a.rows[name] = regexp.MustCompile("^" + kids + "$")
	}
	return a
}

func (a *account) nameOf(kind Kind) string {
	if kind < 0 || int(kind) >= len(a.names) {
		return "Other"
	}
	return a.names[kind]
}

// hold: a node of these kinds is ? just where the table doesn't have it.
func (a *account) hold(t *testing.T, kind Kind, kids []Kind) {
	t.Helper()
	n := Node{Kind: kind, Text: "x", Num: 3}
	var names strings.Builder
	for _, k := range kids {
		n.Kids = append(n.Kids, Node{Kind: k, Text: "y", Num: 5})
		names.WriteString(a.nameOf(k) + " ")
	}
	row := a.rows[a.nameOf(kind)]
	right := row != nil && row.MatchString(names.String())
	if right {
		a.right++
	} else {
		a.wrong++
	}
	if got := Show(n); (got == "?") == right {
		t.Fatalf("P3.1: %s of %s: %q", a.nameOf(kind), names.String(), got)
	}
}

func allKinds() []Kind {
	kinds := []Kind{-1, math.MinInt, math.MaxInt, Call + 1}
	for kind := Unit; kind <= Call; kind++ {
		kinds = append(kinds, kind)
	}
	return kinds
}

// TestP31AllKids: every kind with every list of at most three kids.
func TestP31AllKids(t *testing.T) {
	a := newAccount()
	if len(a.rows) != int(Call)+1 {
		t.Fatalf("the table has %d rows", len(a.rows))
	}
	kinds := allKinds()
	var grow func(kind Kind, kids []Kind)
	grow = func(kind Kind, kids []Kind) {
		a.hold(t, kind, kids)
		for _, next := range kinds {
			if len(kids) < 2 || len(kids) == 2 && next >= Unit && next <= Call+1 {
				grow(kind, append(slices.Clone(kids), next))
			}
		}
	}
	for _, kind := range kinds {
		grow(kind, nil)
	}
	if a.right < 1000 || a.wrong < 100000 {
		t.Errorf("%d right and %d wrong nodes: not enough to tell", a.right, a.wrong)
	}
}

// TestP31KidsChanged: longer lists that are right, with one kid left out, put in, changed for another, or moved.
func TestP31KidsChanged(t *testing.T) {
	a := newAccount()
	for _, c := range []struct {
		kind Kind
		kids []Kind
	}{
		{Unit, []Kind{Type, Fn, Fn, Type}},
		{Type, []Kind{Sort, Field, Field, Fact, Fact}},
		{Fn, []Kind{Param, Param, Param, Mode, Block}},
		{Block, []Kind{Set, Store, Free, Lock, Unlock, If, While, Return, Abort, Fork, Do}},
		{If, []Kind{Term, Term, Block, Block}},
		{While, []Kind{Term, Term, Block}},
		{Fork, []Kind{Term, Term, Term, Term}},
		{Call, []Kind{Term, Term, Term, Term}},
	} {
		a.hold(t, c.kind, c.kids)
		for i := range c.kids {
			a.hold(t, c.kind, slices.Delete(slices.Clone(c.kids), i, i+1))
			for j := range c.kids {
				swapped := slices.Clone(c.kids)
				swapped[i], swapped[j] = swapped[j], swapped[i]
				a.hold(t, c.kind, swapped)
			}
		}
		for _, other := range allKinds() {
			for i := range c.kids {
				changed := slices.Clone(c.kids)
				changed[i] = other
				a.hold(t, c.kind, changed)
				a.hold(t, c.kind, slices.Insert(slices.Clone(c.kids), i, other))
			}
			a.hold(t, c.kind, append(slices.Clone(c.kids), other))
			a.hold(t, other, c.kids)
		}
	}
}
