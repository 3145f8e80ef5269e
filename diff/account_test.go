package diff

import (
	"math/big"
	"math/rand"
	"slices"
	"testing"

	"lychgate/api"
)

// each calls do with every list of n numbers from -deep to 0.
func each(n int, deep int64, do func([]int64)) {
	numbers := make([]int64, n)
	var fill func(int)
	fill = func(at int) {
		if at == n {
			do(numbers)
			return
		}
		for v := -deep; v <= 0; v++ {
			numbers[at] = v
			fill(at + 1)
		}
	}
	fill(0)
}

func allHold(numbers []int64, facts []Leq) bool {
	return !slices.ContainsFunc(facts, func(f Leq) bool { return numbers[f.X]-numbers[f.Y] > f.C })
}

// tried is a second account of the chapter's words by going through all numbers: the plain solution, nil if there is none.
// No number of it is below -deep ahead of the taking away, if deep is n - 1 times the greatest C or more.
func tried(n int, deep int64, facts []Leq) []int64 {
	var greatest []int64
	each(n, deep, func(numbers []int64) {
		if !allHold(numbers, facts) {
			return
		}
		if greatest == nil {
			greatest = slices.Clone(numbers)
		}
		for i, v := range numbers {
			greatest[i] = max(greatest[i], v)
		}
	})
	if greatest == nil {
		return nil
	}
	zero := greatest[0]
	for i := range greatest {
		greatest[i] -= zero
	}
	return greatest
}

// triedGoal: does the goal hold in all solutions that are gone through?
func triedGoal(n int, deep int64, goal Leq, facts []Leq) bool {
	follows := true
	each(n, deep, func(numbers []int64) {
		if allHold(numbers, facts) && !allHold(numbers, []Leq{goal}) {
			follows = false
		}
	})
	return follows
}

// smallFacts: all facts of n variables with a C from -most to most.
func smallFacts(n int, most int64) []Leq {
	var out []Leq
	for x := range n {
		for y := range n {
			for c := -most; c <= most; c++ {
				out = append(out, le(x, y, c))
			}
		}
	}
	return out
}

func wantAsTried(t *testing.T, n int, most int64, facts ...Leq) {
	t.Helper()
	if want := tried(n, int64(n-1)*most, facts); want == nil {
		wantCircle(t, n, facts...)
	} else {
		wantNumbers(t, want, facts...)
	}
}

// TestP41AllSmall: all systems of few facts with small numbers, against all numbers tried.
func TestP41AllSmall(t *testing.T) {
	for n := 1; n <= 3; n++ {
		all := smallFacts(n, 2)
		wantAsTried(t, n, 2)
		for _, a := range all {
			wantAsTried(t, n, 2, a)
			for _, b := range all {
				wantAsTried(t, n, 2, a, b)
			}
		}
	}
	all := smallFacts(3, 2)
	for _, a := range all {
		for _, b := range all {
			for _, c := range all {
				wantAsTried(t, 3, 2, a, b, c)
			}
		}
	}
}

// TestP42AllSmall: all goals of all systems of few facts with small numbers, against all numbers tried.
func TestP42AllSmall(t *testing.T) {
	for n := 1; n <= 3; n++ {
		all := smallFacts(n, 1)
		deep := int64(n-1) * 2
		for _, goal := range all {
			wantEntails(t, triedGoal(n, deep, goal, nil), n, goal)
			for _, a := range all {
				wantEntails(t, triedGoal(n, deep, goal, []Leq{a}), n, goal, a)
				for _, b := range all {
					wantEntails(t, triedGoal(n, deep, goal, []Leq{a, b}), n, goal, a, b)
				}
			}
		}
	}
}

// bounds is a second account by what follows: the least bound of each difference that the facts tell, nil where they tell none; not held, if they can't hold. It reckons without a bound of its own.
func bounds(n int, facts []Leq) (least [][]*big.Int, held bool) {
	least = make([][]*big.Int, n)
	for i := range n {
		least[i] = make([]*big.Int, n)
		least[i][i] = new(big.Int)
	}
	lower := func(x, y int, c *big.Int) {
		if least[x][y] == nil || c.Cmp(least[x][y]) < 0 {
			least[x][y] = c
		}
	}
	for _, f := range facts {
		lower(f.X, f.Y, big.NewInt(f.C))
	}
	for mid := range n {
		for x := range n {
			for y := range n {
				if least[x][mid] != nil && least[mid][y] != nil {
					lower(x, y, new(big.Int).Add(least[x][mid], least[mid][y]))
				}
			}
		}
		if least[mid][mid].Sign() < 0 {
			return nil, false
		}
	}
	for i := range n {
		if least[i][i].Sign() < 0 {
			return nil, false
		}
	}
	return least, true
}

// plainOf: the plain solution, by what follows: each variable is as far below 0 as the least of its bounds asks.
func plainOf(least [][]*big.Int) []int64 {
	greatest := make([]int64, len(least))
	for x, row := range least {
		for _, c := range row {
			if c != nil {
				greatest[x] = min(greatest[x], c.Int64())
			}
		}
	}
	zero := greatest[0]
	for i := range greatest {
		greatest[i] -= zero
	}
	return greatest
}

// wantAsBounds holds Solve, and Entails of some goals, against the second account.
func wantAsBounds(t *testing.T, n int, facts []Leq, goals []Leq) {
	t.Helper()
	least, held := bounds(n, facts)
	if held {
		wantNumbers(t, plainOf(least), facts...)
	} else {
		wantCircle(t, n, facts...)
	}
	for _, g := range goals {
		want := !held || least[g.X][g.Y] != nil && least[g.X][g.Y].Cmp(big.NewInt(g.C)) <= 0
		wantEntails(t, want, n, g, facts...)
	}
}

// nextTo: goals at the bounds that the facts tell, and one less.
func nextTo(n int, facts []Leq, x, y int) []Leq {
	least, held := bounds(n, facts)
	if !held || least[x][y] == nil {
		return nil
	}
	c := least[x][y].Int64()
	if c <= -api.MaxDiff || c >= api.MaxDiff {
		return nil
	}
	return []Leq{le(x, y, c), le(x, y, c-1)}
}

// drawn: facts that hold of some numbers, with at most this much room in each; a last one may take some of it back.
func drawn(r *rand.Rand, n, many int, room int64) []Leq {
	numbers := make([]int64, n)
	for i := range numbers {
		numbers[i] = r.Int63n(api.MaxDiff / 4)
	}
	var facts []Leq
	for range many {
		x, y := r.Intn(n), r.Intn(n)
		facts = append(facts, le(x, y, numbers[x]-numbers[y]+r.Int63n(room)))
	}
	if r.Intn(2) == 0 {
		x, y := r.Intn(n), r.Intn(n)
		facts = append(facts, le(x, y, numbers[x]-numbers[y]-1-r.Int63n(room)))
	}
	return facts
}

// TestP41P42Drawn: greater systems, drawn anew the same way each time.
func TestP41P42Drawn(t *testing.T) {
	r := rand.New(rand.NewSource(4))
	solved, circles := 0, 0
	for round := range 300 {
		n := 1 + r.Intn(20)
		if round%50 == 0 {
			n = api.MaxVars
		}
		many := r.Intn(min(5*n, api.MaxFacts-1))
		facts := drawn(r, n, many, []int64{1, 2, 10, 1 << 30}[r.Intn(4)])
		var goals []Leq
		for range 5 {
			goals = append(goals, le(r.Intn(n), r.Intn(n), r.Int63n(2*api.MaxDiff)-api.MaxDiff))
			goals = append(goals, nextTo(n, facts, r.Intn(n), r.Intn(n))...)
		}
		wantAsBounds(t, n, facts, goals)
		if _, cycle, _ := Solve(n, facts...); len(cycle) == 0 {
			solved++
		} else {
			circles++
		}
	}
	if solved < 50 || circles < 50 {
		t.Errorf("P4.1: of the systems drawn %d have a solution and %d have none: too few of one to tell", solved, circles)
	}
}

// factsOf: a system read from bytes, three of them a fact; also odd ones.
func factsOf(data []byte) []Leq {
	var facts []Leq
	for ; len(data) >= 3; data = data[3:] {
		c := int64(int8(data[2]))
		switch {
		case c >= 120:
			c = api.MaxDiff + 124 - c
		case c <= -120:
			c = -api.MaxDiff - 124 - c
		}
		facts = append(facts, le(int(data[0])-1, int(data[1])-1, c))
	}
	return facts
}

func isOdd(n int, f Leq) bool {
	return min(f.X, f.Y) < 0 || max(f.X, f.Y) > n-1 || max(f.C, -f.C) > api.MaxDiff
}

func FuzzSolve(f *testing.F) {
	f.Add(2, []byte{1, 2, 255, 2, 1, 0, 1, 2, 0})
	f.Add(3, []byte{1, 2, 2, 2, 3, 3, 1, 3, 5})
	f.Add(96, []byte{96, 1, 124, 1, 96, 132, 1, 1, 0})
	f.Add(1, []byte{0, 2, 0})
	f.Fuzz(func(t *testing.T, n int, data []byte) {
		facts := factsOf(data)
		goal := le(0, 0, 0)
		if len(facts) > 0 {
			goal, facts = facts[0], facts[1:]
		}
		odd := n < 1 || n > api.MaxVars || slices.ContainsFunc(facts, func(f Leq) bool { return isOdd(n, f) })
		switch {
		case len(facts) > api.MaxFacts:
			wantRefused(t, api.ErrMany, n, facts...)
			wantGoalRefused(t, api.ErrMany, n, goal, facts...)
		case odd:
			wantRefused(t, api.ErrArg, n, facts...)
		case len(facts) == api.MaxFacts:
			wantAsBounds(t, n, facts, nil)
			wantGoalRefused(t, api.ErrMany, n, goal, facts...)
		case isOdd(n, goal) || goal.C == api.MaxDiff:
			wantAsBounds(t, n, facts, nil)
			wantGoalRefused(t, api.ErrArg, n, goal, facts...)
		default:
			wantAsBounds(t, n, facts, []Leq{goal})
		}
	})
}
