package diff

import (
	"math"
	"slices"
	"testing"

	"lychgate/api"
)

func le(x, y int, c int64) Leq { return Leq{X: x, Y: y, C: c} }

// wantNumbers: Solve answers these numbers and nothing else.
func wantNumbers(t *testing.T, want []int64, facts ...Leq) {
	t.Helper()
	if numbers, cycle, e := Solve(len(want), facts...); e != api.OK || len(cycle) != 0 || !slices.Equal(numbers, want) {
		t.Errorf("P4.1: %d facts: %v, the circle %v, error %d; want %v", len(facts), numbers, cycle, e, want)
	}
}

// circleFault: why the list is no circle of at most n of the facts; empty, if it is one.
func circleFault(n int, cycle []int, facts []Leq) string {
	if len(cycle) == 0 || len(cycle) > n {
		return "another number of facts than from 1 to n"
	}
	sum := int64(0)
	for i, number := range cycle {
		next := cycle[(i+1)%len(cycle)]
		if number < 0 || number >= len(facts) || next < 0 || next >= len(facts) {
			return "a number of no fact"
		}
		if facts[number].Y != facts[next].X {
			return "a Y that isn't the X of the next one"
		}
		sum += facts[number].C
	}
	if sum >= 0 {
		return "a sum that isn't below 0"
	}
	return ""
}

// wantCircle: Solve answers a circle and nothing else; the circle is handed back.
func wantCircle(t *testing.T, n int, facts ...Leq) []int {
	t.Helper()
	numbers, cycle, e := Solve(n, facts...)
	if e != api.OK || len(numbers) != 0 {
		t.Fatalf("P4.1: %d variables, %d facts: %v, error %d; want no numbers and a circle", n, len(facts), numbers, e)
	}
	if fault := circleFault(n, cycle, facts); fault != "" {
		t.Fatalf("P4.1: %d variables, %d facts: the circle %v has %s", n, len(facts), cycle, fault)
	}
	return cycle
}

func wantRefused(t *testing.T, want api.Errno, n int, facts ...Leq) {
	t.Helper()
	if numbers, cycle, e := Solve(n, facts...); e != want || len(numbers) != 0 || len(cycle) != 0 {
		t.Errorf("P4.1: %d variables, %d facts: %v, %v, error %d; want error %d alone", n, len(facts), numbers, cycle, e, want)
	}
}

func wantEntails(t *testing.T, want bool, n int, goal Leq, facts ...Leq) {
	t.Helper()
	if is, e := Entails(n, goal, facts...); is != want || e != api.OK {
		t.Errorf("P4.2: %d variables, %d facts, the goal %v: %v, error %d; want %v", n, len(facts), goal, is, e, want)
	}
}

func wantGoalRefused(t *testing.T, want api.Errno, n int, goal Leq, facts ...Leq) {
	t.Helper()
	if is, e := Entails(n, goal, facts...); is || e != want {
		t.Errorf("P4.2: %d variables, %d facts, the goal %v: %v, error %d; want error %d", n, len(facts), goal, is, e, want)
	}
}

// wantBound: of X - Y the facts tell that it is at most c, and no less.
func wantBound(t *testing.T, n, x, y int, c int64, facts ...Leq) {
	t.Helper()
	wantEntails(t, true, n, le(x, y, c), facts...)
	wantEntails(t, false, n, le(x, y, c-1), facts...)
}

// chain: from the variable 0 to the last one, each less the next at most c.
func chain(n int, c int64) []Leq {
	var out []Leq
	for i := range n - 1 {
		out = append(out, le(i, i+1, c))
	}
	return out
}

func turnedRound(facts []Leq) []Leq {
	out := slices.Clone(facts)
	slices.Reverse(out)
	return out
}

func TestP41Ordinary(t *testing.T) {
	wantNumbers(t, []int64{0, 2, 2}, le(0, 1, -2), le(1, 2, 5))
	wantNumbers(t, []int64{0, 0, 0}, le(0, 1, 2), le(1, 2, 3))
	wantNumbers(t, []int64{0, -7}, le(1, 0, -7))
	wantNumbers(t, []int64{0, 1, 3, 6}, le(2, 3, -3), le(1, 2, -2), le(0, 1, -1))
	// The lesser of two bounds holds, whichever is told first.
	wantNumbers(t, []int64{0, 5}, le(0, 1, -3), le(0, 1, -5))
	wantNumbers(t, []int64{0, 5}, le(0, 1, -5), le(0, 1, -3))
	// x1 == x0 + 4, x2 == x1 - 6: the greatest of the three is at 0 ahead of the taking away.
	wantNumbers(t, []int64{0, 4, -2}, le(1, 0, 4), le(0, 1, -4), le(2, 1, -6), le(1, 2, 6))
	// Two ways round to the variable 3: the one that asks for more counts.
	wantNumbers(t, []int64{0, 0, 2, -4}, le(3, 1, -4), le(3, 2, -6), le(1, 2, -2), le(0, 2, -2))
}

func TestP41NoFacts(t *testing.T) {
	wantNumbers(t, []int64{0})
	wantNumbers(t, []int64{0, 0})
	wantNumbers(t, make([]int64, api.MaxVars))
	if numbers, cycle, e := Solve(3, []Leq{}...); len(numbers) != 3 || len(cycle) != 0 || e != api.OK {
		t.Errorf("P4.1: an empty list that isn't nil: %v, %v, error %d", numbers, cycle, e)
	}
}

func TestP41FactsOfOneVariable(t *testing.T) {
	for _, c := range []int64{0, 1, api.MaxDiff} {
		wantNumbers(t, []int64{0}, le(0, 0, c))
		wantNumbers(t, []int64{0, 3}, le(1, 1, c), le(0, 1, -3), le(0, 0, c))
	}
	for _, c := range []int64{-1, -2, -api.MaxDiff} {
		if cycle := wantCircle(t, 1, le(0, 0, c)); !slices.Equal(cycle, []int{0}) {
			t.Errorf("P4.1: %v, want 0 alone", cycle)
		}
		if cycle := wantCircle(t, 3, le(0, 1, -3), le(2, 2, c), le(1, 1, 0)); !slices.Equal(cycle, []int{1}) {
			t.Errorf("P4.1: %v, want 1 alone", cycle)
		}
	}
}

func TestP41Circles(t *testing.T) {
	two := wantCircle(t, 2, le(0, 1, -1), le(1, 0, 0))
	if !slices.Equal(two, []int{0, 1}) && !slices.Equal(two, []int{1, 0}) {
		t.Errorf("P4.1: the chapter's example: %v", two)
	}
	wantNumbers(t, []int64{0, 1}, le(0, 1, -1), le(1, 0, 1))
	three := wantCircle(t, 4, le(0, 1, -1), le(3, 2, 9), le(1, 2, -1), le(2, 0, 1))
	if slices.Sort(three); !slices.Equal(three, []int{0, 2, 3}) {
		t.Errorf("P4.1: %v, want 0, 2 and 3", three)
	}
	wantNumbers(t, []int64{0, 1, 2, 2}, le(0, 1, -1), le(3, 2, 9), le(1, 2, -1), le(2, 0, 2))
	// A tail leads out of the circle and one leads into it; neither belongs to it.
	tails := []Leq{le(0, 1, -9), le(1, 2, -1), le(2, 3, 1), le(3, 1, -1), le(3, 4, -9), le(4, 5, -9)}
	for _, facts := range [][]Leq{tails, turnedRound(tails)} {
		if cycle := wantCircle(t, 6, facts...); len(cycle) != 3 {
			t.Errorf("P4.1: %v, want the three facts of the circle", cycle)
		}
	}
	// Two circles that share a variable: only one of them is below 0.
	wantCircle(t, 3, le(0, 1, 4), le(1, 0, -3), le(0, 2, 2), le(2, 0, -3))
	wantNumbers(t, []int64{0, -3, -3}, le(0, 1, 4), le(1, 0, -3), le(0, 2, 3), le(2, 0, -3))
}

func TestP41LongestChainAndCircle(t *testing.T) {
	for _, n := range []int{2, 3, 7, api.MaxVars - 1, api.MaxVars} {
		for _, c := range []int64{-1, -api.MaxDiff} {
			var want []int64
			for i := range n {
				want = append(want, -c*int64(i))
			}
			facts := chain(n, c)
			wantNumbers(t, want, facts...)
			wantNumbers(t, want, turnedRound(facts)...)
		}
		// The last fact makes a circle of all n: at the sum 0 they hold, at -1 they don't.
		closed := append(chain(n, -1), le(n-1, 0, int64(n-1)))
		if _, cycle, e := Solve(n, closed...); len(cycle) != 0 || e != api.OK {
			t.Errorf("P4.1: %d variables: a sum of 0 is no circle: %v, error %d", n, cycle, e)
		}
		closed[n-1].C--
		for _, facts := range [][]Leq{closed, turnedRound(closed)} {
			if cycle := wantCircle(t, n, facts...); len(cycle) != n {
				t.Errorf("P4.1: %d facts in the circle, want all %d", len(cycle), n)
			}
		}
	}
}

func TestP41GreatNumbers(t *testing.T) {
	wantNumbers(t, []int64{0, api.MaxDiff}, le(0, 1, -api.MaxDiff), le(1, 0, api.MaxDiff))
	wantCircle(t, 2, le(0, 1, -api.MaxDiff), le(1, 0, api.MaxDiff-1))
	wantCircle(t, 2, le(0, 1, -api.MaxDiff), le(1, 0, -api.MaxDiff))
	wantNumbers(t, []int64{0, 0}, le(0, 1, api.MaxDiff), le(1, 0, api.MaxDiff))
	last := api.MaxVars - 1
	wantCircle(t, api.MaxVars, append(chain(api.MaxVars, -api.MaxDiff), le(last, 0, api.MaxDiff))...)
	wantCircle(t, api.MaxVars, append(chain(api.MaxVars, -api.MaxDiff), le(last, 0, -api.MaxDiff))...)
}

func TestP41AsManyFactsAsMayBe(t *testing.T) {
	zeros := make([]Leq, api.MaxFacts)
	wantNumbers(t, []int64{0}, zeros...)
	wantNumbers(t, make([]int64, api.MaxVars), zeros...)
	// The one fact that counts stands last, and first.
	want := make([]int64, api.MaxVars)
	want[api.MaxVars-1] = -1
	for _, at := range []int{0, api.MaxFacts - 1} {
		facts := make([]Leq, api.MaxFacts)
		facts[at] = le(api.MaxVars-1, 0, -1)
		wantNumbers(t, want, facts...)
		facts[at] = le(0, 0, -1)
		if cycle := wantCircle(t, api.MaxVars, facts...); !slices.Equal(cycle, []int{at}) {
			t.Errorf("P4.1: %v, want %d alone", cycle, at)
		}
	}
	// Each of them brings a number down by MaxDiff in every round: nothing may wrap round.
	for _, n := range []int{1, 2, api.MaxVars} {
		var facts []Leq
		for i := range api.MaxFacts {
			facts = append(facts, le(i%n, (i+1)%n, -api.MaxDiff))
		}
		wantCircle(t, n, facts...)
		wantCircle(t, n, turnedRound(facts)...)
		wantCircle(t, n, slices.Repeat([]Leq{le(n-1, n-1, -api.MaxDiff)}, api.MaxFacts)...)
	}
}

func TestP41TwiceAndInAnotherOrder(t *testing.T) {
	facts := []Leq{le(0, 1, -2), le(2, 3, -5), le(1, 2, 3), le(3, 0, 4), le(1, 3, -1)}
	want, _, _ := Solve(4, facts...)
	if len(want) != 4 {
		t.Fatalf("P4.1: %v", want)
	}
	broken := append(slices.Clone(facts), le(3, 1, 0))
	for range len(facts) {
		facts = append(facts[1:], facts[0])
		wantNumbers(t, want, facts...)
		wantNumbers(t, want, turnedRound(facts)...)
		wantNumbers(t, want, append(slices.Clone(facts), facts...)...)
		broken = append(broken[1:], broken[0])
		wantCircle(t, 4, broken...)
		wantCircle(t, 4, append(slices.Clone(broken), turnedRound(broken)...)...)
	}
}

func TestP41Refused(t *testing.T) {
	for _, n := range []int{0, -1, api.MaxVars + 1, math.MinInt, math.MaxInt} {
		wantRefused(t, api.ErrArg, n)
		wantRefused(t, api.ErrArg, n, le(0, 0, 0))
		wantRefused(t, api.ErrMany, n, make([]Leq, api.MaxFacts+1)...)
	}
	for _, f := range oddFacts(5) {
		wantRefused(t, api.ErrArg, 5, f)
		wantRefused(t, api.ErrArg, 5, le(0, 0, -1), le(0, 1, 2), f)
		wantRefused(t, api.ErrArg, 5, f, le(0, 1, 2))
		wantRefused(t, api.ErrArg, 5, append(make([]Leq, api.MaxFacts-1), f)...)
		wantRefused(t, api.ErrMany, 5, append(make([]Leq, api.MaxFacts), f)...)
	}
	wantRefused(t, api.ErrMany, 1, make([]Leq, api.MaxFacts+1)...)
	wantRefused(t, api.ErrMany, api.MaxVars, make([]Leq, 1<<20)...)
	// What is just inside of each bound is taken.
	wantNumbers(t, []int64{0, 0, 0, 0, 0}, le(4, 0, api.MaxDiff), le(0, 4, api.MaxDiff))
}

// oddFacts: facts of which each has one number outside of what a system of n variables may have.
func oddFacts(n int) []Leq {
	var out []Leq
	for _, v := range []int{-1, n, n + 1, -n, api.MaxVars, math.MinInt, math.MaxInt, 1 << 32, -1 << 32} {
		out = append(out, le(v, 0, 0), le(0, v, 0))
	}
	for _, c := range []int64{api.MaxDiff + 1, -api.MaxDiff - 1, math.MaxInt64, math.MinInt64, math.MinInt64 + 1} {
		out = append(out, le(0, 1, c), le(2, 2, c))
	}
	return out
}

func TestP42Ordinary(t *testing.T) {
	wantBound(t, 3, 0, 2, 5, le(0, 1, 2), le(1, 2, 3))
	wantBound(t, 3, 0, 2, 3, le(0, 1, -2), le(1, 2, 5))
	wantBound(t, 3, 0, 1, -2, le(0, 1, -2), le(1, 2, 5))
	// Nothing is told of the other direction, nor of a variable that stands in no fact.
	for _, goal := range []Leq{le(2, 0, 100), le(1, 0, api.MaxDiff-1), le(0, 3, api.MaxDiff-1), le(3, 0, api.MaxDiff-1)} {
		wantEntails(t, false, 4, goal, le(0, 1, -2), le(1, 2, 5))
	}
	// Of two ways from 0 to 3 the one with the lesser sum counts.
	ways := []Leq{le(0, 1, 4), le(1, 3, 4), le(0, 2, 9), le(2, 3, -2)}
	wantBound(t, 4, 0, 3, 7, ways...)
	wantBound(t, 4, 0, 3, 7, turnedRound(ways)...)
	ways[3].C = 0
	wantBound(t, 4, 0, 3, 8, ways...)
	// 0 <= i, i < len, len <= cap: so i is at most cap less 1.
	wantBound(t, 4, 1, 3, -1, le(0, 1, 0), le(1, 2, -1), le(2, 3, 0))
	wantBound(t, 4, 0, 3, -1, le(0, 1, 0), le(1, 2, -1), le(2, 3, 0))
}

func TestP42NoFactsAndOneVariable(t *testing.T) {
	for _, n := range []int{1, 2, api.MaxVars} {
		wantBound(t, n, n-1, n-1, 0)
		wantEntails(t, true, n, le(0, 0, api.MaxDiff-1))
		wantEntails(t, false, n, le(0, 0, -api.MaxDiff))
		wantBound(t, n, 0, 0, 0, le(0, 0, 3), le(n-1, n-1, 0))
	}
	wantEntails(t, false, 2, le(0, 1, api.MaxDiff-1))
	wantEntails(t, false, 2, le(1, 0, -api.MaxDiff))
}

func TestP42FactsWithoutSolution(t *testing.T) {
	for _, facts := range [][]Leq{{le(0, 0, -1)}, {le(2, 3, -1), le(3, 2, 0)}, {le(0, 1, 7), le(3, 3, -api.MaxDiff)}} {
		for x := range 5 {
			for y := range 5 {
				for _, c := range []int64{-api.MaxDiff, -5, -1, 0, 1, api.MaxDiff - 1} {
					wantEntails(t, true, 5, le(x, y, c), facts...)
				}
			}
		}
	}
	// A goal that can't hold beside the facts doesn't follow from them; one that can't hold at all follows from no facts that can.
	wantEntails(t, false, 2, le(1, 0, -1), le(0, 1, -1))
	wantEntails(t, false, 2, le(1, 1, -1), le(0, 1, -1))
}

func TestP42GreatNumbers(t *testing.T) {
	wantBound(t, 2, 0, 1, api.MaxDiff-1, le(0, 1, api.MaxDiff-1))
	wantEntails(t, false, 2, le(0, 1, api.MaxDiff-1), le(0, 1, api.MaxDiff))
	wantEntails(t, true, 2, le(0, 1, -api.MaxDiff), le(0, 1, -api.MaxDiff))
	wantEntails(t, false, 2, le(0, 1, -api.MaxDiff), le(0, 1, -api.MaxDiff+1))
	wantBound(t, 3, 0, 2, 0, le(0, 1, -api.MaxDiff), le(1, 2, api.MaxDiff))
	last := api.MaxVars - 1
	wantEntails(t, true, api.MaxVars, le(0, last, -api.MaxDiff), chain(api.MaxVars, -api.MaxDiff)...)
	wantEntails(t, false, api.MaxVars, le(last, 0, api.MaxDiff-1), chain(api.MaxVars, -api.MaxDiff)...)
	wantBound(t, api.MaxVars, 0, last, int64(last)*3, chain(api.MaxVars, 3)...)
	wantBound(t, api.MaxVars, 0, last, int64(last)*-3, turnedRound(chain(api.MaxVars, -3))...)
}

func TestP42AsManyFactsAsMayBe(t *testing.T) {
	facts := make([]Leq, api.MaxFacts-1)
	facts[api.MaxFacts-2] = le(0, 95, 6)
	wantBound(t, api.MaxVars, 0, 95, 6, facts...)
	facts[0] = le(0, 95, 4)
	wantBound(t, api.MaxVars, 0, 95, 4, facts...)
}

func TestP42TwiceAndInAnotherOrder(t *testing.T) {
	facts := []Leq{le(0, 1, -2), le(2, 3, -5), le(1, 2, 3), le(3, 0, 4), le(1, 3, -1)}
	for range len(facts) {
		facts = append(facts[1:], facts[0])
		for _, l := range [][]Leq{facts, turnedRound(facts), append(slices.Clone(facts), facts...)} {
			wantBound(t, 4, 0, 3, -4, l...)
			wantBound(t, 4, 2, 1, -3, l...)
		}
	}
}

func TestP42Refused(t *testing.T) {
	fine := le(0, 1, 0)
	for _, n := range []int{0, -1, api.MaxVars + 1, math.MinInt, math.MaxInt} {
		wantGoalRefused(t, api.ErrArg, n, le(0, 0, 0))
		wantGoalRefused(t, api.ErrArg, n, fine, fine)
		wantGoalRefused(t, api.ErrMany, n, fine, make([]Leq, api.MaxFacts)...)
	}
	for _, odd := range append(oddFacts(5), le(0, 1, api.MaxDiff), le(3, 3, api.MaxDiff)) {
		wantGoalRefused(t, api.ErrArg, 5, odd)
		wantGoalRefused(t, api.ErrArg, 5, odd, fine)
		// Facts that can't hold make no goal fit.
		wantGoalRefused(t, api.ErrArg, 5, odd, le(0, 0, -1))
		wantGoalRefused(t, api.ErrArg, 5, odd, make([]Leq, api.MaxFacts-1)...)
		wantGoalRefused(t, api.ErrMany, 5, odd, make([]Leq, api.MaxFacts)...)
	}
	for _, odd := range oddFacts(5) {
		wantGoalRefused(t, api.ErrArg, 5, fine, odd)
		wantGoalRefused(t, api.ErrArg, 5, fine, le(0, 0, -1), odd)
		wantGoalRefused(t, api.ErrArg, 5, fine, append(make([]Leq, api.MaxFacts-2), odd)...)
		wantGoalRefused(t, api.ErrMany, 5, fine, append(make([]Leq, api.MaxFacts-1), odd)...)
	}
	// In a fact MaxDiff itself is fine: only the goal's may not be it.
	wantEntails(t, false, 5, fine, le(0, 1, api.MaxDiff))
	wantEntails(t, false, 5, fine, make([]Leq, api.MaxFacts-1)...)
	for _, many := range []int{api.MaxFacts, api.MaxFacts + 1, 1 << 20} {
		wantGoalRefused(t, api.ErrMany, 2, fine, make([]Leq, many)...)
	}
}

// TestRule4: what is handed in stays as it was, also behind its length; what is answered is new memory.
func TestRule4(t *testing.T) {
	whole := []Leq{le(0, 1, -2), le(1, 2, 5), le(7, 7, 7), le(8, 8, 8)}
	facts := whole[:2]
	before := slices.Clone(whole)
	numbers, _, _ := Solve(3, facts...)
	Entails(3, le(0, 2, 3), facts...)
	Entails(3, le(0, 2, 2), facts...)
	Entails(3, le(0, 2, 2), whole[:0]...)
	Entails(3, le(9, 2, 2), facts...)
	if !slices.Equal(whole, before) {
		t.Errorf("rule 4: %v was %v", whole, before)
	}
	numbers[0], numbers[2] = 44, 55
	wantNumbers(t, []int64{0, 2, 2}, facts...)
	broken := []Leq{le(0, 1, -1), le(1, 0, 0)}
	wantCircle(t, 2, broken...)[0] = 44
	wantCircle(t, 2, broken...)
}

// TestRule8: asked again, between other calls, the answer is the same.
func TestRule8(t *testing.T) {
	facts := []Leq{le(0, 1, -1), le(1, 2, -1), le(2, 0, 1), le(1, 0, -2), le(3, 3, -1)}
	first := wantCircle(t, 4, facts...)
	for range 20 {
		Solve(2, le(0, 1, -3))
		Entails(4, le(0, 1, 0), facts[1:]...)
		if again := wantCircle(t, 4, facts...); !slices.Equal(first, again) {
			t.Fatalf("rule 8: %v, then %v", first, again)
		}
	}
}
