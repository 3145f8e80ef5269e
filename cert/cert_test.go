package cert

import (
	"math"
	"slices"
	"testing"

	"lychgate/api"
	"lychgate/diff"
)

func le(x, y int, c int64) diff.Leq { return diff.Leq{X: x, Y: y, C: c} }

func wantIsCircle(t *testing.T, want bool, cycle []int, facts ...diff.Leq) {
	t.Helper()
	if is := Circle(cycle, facts...); is != want {
		t.Errorf("P5.1: %d numbers (%v ..), %d facts: %v, want %v", len(cycle), cycle[:min(len(cycle), 9)], len(facts), is, want)
	}
}

func wantHolds(t *testing.T, want bool, numbers []int64, facts ...diff.Leq) {
	t.Helper()
	if is := Holds(numbers, facts...); is != want {
		t.Errorf("P5.2: %v, %v: %v, want %v", numbers, facts, is, want)
	}
}

func wantCheck(t *testing.T, want bool, p Proof, n int, goal diff.Leq, facts ...diff.Leq) {
	t.Helper()
	if is := Check(p, n, goal, facts...); is != want {
		t.Errorf("P5.4: Yes %v, %d numbers in the cycle, the numbers %v; %d variables, the goal %v, %d facts: %v, want %v", p.Yes, len(p.Cycle), p.Numbers, n, goal, len(facts), is, want)
	}
}

// wantProof: Prove answers a proof of this, by the chapter's words and by Check, which is handed back.
func wantProof(t *testing.T, want bool, n int, goal diff.Leq, facts ...diff.Leq) Proof {
	t.Helper()
	p, e := Prove(n, goal, facts...)
	if e != api.OK || p.Yes != want {
		t.Fatalf("P5.3: %d variables, the goal %v, %d facts: %v, error %d; want %v", n, goal, len(facts), p, e, want)
	}
	if fault := proofFault(p, n, goal, facts); fault != "" {
		t.Fatalf("P5.3: %d variables, the goal %v, %d facts: the proof %v has %s", n, goal, len(facts), p, fault)
	}
	if !Check(p, n, goal, facts...) {
		t.Fatalf("P5.5: %d variables, the goal %v, %d facts: the proof %v isn't checked", n, goal, len(facts), p)
	}
	return p
}

// wantRefused: Prove answers this error alone, diff.Entails the same, and Check takes no proof.
func wantRefused(t *testing.T, want api.Errno, n int, goal diff.Leq, facts ...diff.Leq) {
	t.Helper()
	if _, e := diff.Entails(n, goal, facts...); e != want {
		t.Fatalf("P4.2: %d variables, the goal %v, %d facts: error %d, want %d", n, goal, len(facts), e, want)
	}
	p, e := Prove(n, goal, facts...)
	if e != want || p.Yes || len(p.Cycle) != 0 || len(p.Numbers) != 0 {
		t.Errorf("P5.3: %d variables, the goal %v, %d facts: %v, error %d; want error %d alone", n, goal, len(facts), p, e, want)
	}
	wantCheck(t, false, p, n, goal, facts...)
	for number := range min(len(facts)+1, 4) {
		wantCheck(t, false, Proof{Yes: true, Cycle: []int{number}}, n, goal, facts...)
		wantCheck(t, false, Proof{Yes: true, Cycle: []int{number, len(facts)}}, n, goal, facts...)
	}
	wantCheck(t, false, Proof{Numbers: make([]int64, min(max(n, 0), 1000))}, n, goal, facts...)
	wantCheck(t, false, Proof{Numbers: []int64{9, 5, 0, -5, -9}}, n, goal, facts...)
}

// chain: from the variable 0 to the last one, each less the next at most c.
func chain(n int, c int64) []diff.Leq {
	var out []diff.Leq
	for i := range n - 1 {
		out = append(out, le(i, i+1, c))
	}
	return out
}

func TestP51Ordinary(t *testing.T) {
	facts := []diff.Leq{le(0, 1, 2), le(1, 2, 3), le(2, 0, -6), le(1, 0, -2), le(0, 2, 6), le(2, 2, -1)}
	for _, cycle := range [][]int{{0, 1, 2}, {1, 2, 0}, {2, 0, 1}, {5}, {5, 5, 5}, {4, 5, 2}, {0, 1, 5, 2}} {
		wantIsCircle(t, true, cycle, facts...)
	}
	// A number may come twice, in a circle that is gone round twice, and where two circles share a variable.
	for _, cycle := range [][]int{{0, 1, 2, 0, 1, 2}, {0, 3, 0, 1, 2}, {0, 1, 2, 4, 2}, {0, 1, 2, 0, 3, 0, 3}, {4, 5, 5, 2}} {
		wantIsCircle(t, true, cycle, facts...)
	}
	// Not joined: somewhere between, only where the last one meets the first, or turned round.
	for _, cycle := range [][]int{{0, 2, 1}, {2, 1, 0}, {0, 1}, {1, 2}, {2}, {2, 0}, {2, 2}, {0, 1, 2, 2}, {5, 2}, {5, 0}} {
		wantIsCircle(t, false, cycle, facts...)
	}
	// Joined, but the C together are 0 or above.
	for _, cycle := range [][]int{{0, 3}, {3, 0}, {4, 2}, {0, 3, 0, 3}} {
		wantIsCircle(t, false, cycle, facts...)
	}
}

func TestP51Sum(t *testing.T) {
	wantIsCircle(t, true, []int{0}, le(0, 0, -1))
	wantIsCircle(t, false, []int{0}, le(0, 0, 0))
	wantIsCircle(t, false, []int{0}, le(0, 0, 1))
	for _, c := range []int64{0, 1, 5, 1<<22 - 1, 1 << 22, 1<<22 + 1, api.MaxDiff, 1<<44 - 1} {
		wantIsCircle(t, true, []int{0, 1}, le(0, 1, c), le(1, 0, -c-1))
		wantIsCircle(t, true, []int{0, 1}, le(0, 1, -c-1), le(1, 0, c))
		wantIsCircle(t, false, []int{0, 1}, le(0, 1, c), le(1, 0, -c))
		wantIsCircle(t, false, []int{0, 1}, le(0, 1, -c), le(1, 0, c))
		wantIsCircle(t, false, []int{0, 1}, le(0, 1, c), le(1, 0, -c+1))
	}
}

func TestP51NoNumbersOrOfNoFact(t *testing.T) {
	facts := []diff.Leq{le(0, 0, -1), le(0, 0, -1)}
	wantIsCircle(t, false, nil)
	wantIsCircle(t, false, nil, facts...)
	wantIsCircle(t, false, []int{}, facts...)
	wantIsCircle(t, false, []int{0})
	for _, number := range []int{-1, 2, 3, -2, math.MinInt, math.MaxInt, 1 << 32, -1 << 32} {
		wantIsCircle(t, false, []int{number}, facts...)
		wantIsCircle(t, false, []int{0, number}, facts...)
		wantIsCircle(t, false, []int{number, 1}, facts...)
		wantIsCircle(t, false, []int{0, number, 1}, facts...)
	}
	wantIsCircle(t, true, []int{0, 1}, facts...)
}

func TestP51BoundOfC(t *testing.T) {
	const most = 1 << 44
	wantIsCircle(t, true, []int{0}, le(3, 3, -most))
	wantIsCircle(t, true, []int{0, 1}, le(0, 1, most-1), le(1, 0, -most))
	wantIsCircle(t, true, []int{0, 1, 1}, le(0, 0, most), le(0, 0, -most))
	for _, c := range []int64{most + 1, -most - 1, math.MaxInt64, math.MinInt64, math.MinInt64 + 1, 1 << 62} {
		wantIsCircle(t, false, []int{0}, le(3, 3, c))
		wantIsCircle(t, false, []int{0, 1}, le(0, 1, c), le(1, 0, -5))
		wantIsCircle(t, false, []int{1, 0}, le(0, 1, c), le(1, 0, -5))
		wantIsCircle(t, false, []int{0, 1, 1}, le(0, 0, c), le(0, 0, -most))
		wantIsCircle(t, false, []int{0, 0}, le(0, 0, c))
		// What the cycle doesn't name isn't asked.
		wantIsCircle(t, true, []int{1}, le(0, 0, c), le(0, 0, -1), le(1, 1, c))
	}
}

func TestP51AnyVariables(t *testing.T) {
	for _, v := range []int{-1, math.MinInt, math.MaxInt, api.MaxVars, 1 << 32} {
		wantIsCircle(t, true, []int{0, 1}, le(v, 0, 1), le(0, v, -2))
		wantIsCircle(t, true, []int{0}, le(v, v, -2))
		wantIsCircle(t, false, []int{0}, le(v, 0, -2))
		wantIsCircle(t, false, []int{0}, le(v, v+1, -2))
		wantIsCircle(t, false, []int{0}, le(v, -v-1, -2))
	}
}

func TestP51Length(t *testing.T) {
	const most = 1 << 16
	once := func(many, number int) []int { return slices.Repeat([]int{number}, many) }
	wantIsCircle(t, true, once(most, 0), le(0, 0, -1))
	wantIsCircle(t, true, once(most-1, 0), le(0, 0, -1))
	for _, many := range []int{most + 1, most + 2, 2 * most, 2*most + 1, 1 << 20} {
		wantIsCircle(t, false, once(many, 0), le(0, 0, -1))
		wantIsCircle(t, false, once(many, 7), le(0, 0, -1))
	}
	for _, c := range []int64{1 << 44, 1<<44 - 1, api.MaxDiff} {
		wantIsCircle(t, true, once(most, 0), le(0, 0, -c))
		wantIsCircle(t, false, once(most, 0), le(0, 0, c))
		// As much up as down is 0, and one less of the way up, or one in place of it, is below 0.
		even := append(once(most/2, 0), once(most/2, 1)...)
		wantIsCircle(t, false, even, le(0, 0, c), le(0, 0, -c))
		wantIsCircle(t, true, even[1:], le(0, 0, c), le(0, 0, -c))
		even[0] = 2
		wantIsCircle(t, true, even, le(0, 0, c), le(0, 0, -c), le(0, 0, c-1))
	}
	// The last number is asked too.
	long := once(most, 0)
	for _, number := range []int{1, 2, -1} {
		long[most-1] = number
		wantIsCircle(t, false, long, le(0, 0, -1), le(1, 1, -1))
	}
}

func TestP52Ordinary(t *testing.T) {
	facts := []diff.Leq{le(0, 1, 2), le(1, 2, 3)}
	wantHolds(t, true, []int64{5, 3, 0}, facts...)
	wantHolds(t, false, []int64{6, 3, 0}, facts...)
	wantHolds(t, false, []int64{5, 4, 0}, facts...)
	wantHolds(t, true, []int64{6, 4, 1}, facts...)
	wantHolds(t, true, []int64{-5, 3, 0, 77}, facts...)
	wantHolds(t, true, []int64{7}, le(0, 0, 0))
	wantHolds(t, false, []int64{7}, le(0, 0, -1))
	wantHolds(t, true, []int64{3, 5}, le(0, 1, -2))
	wantHolds(t, false, []int64{3, 5}, le(0, 1, -3))
	wantHolds(t, false, []int64{3, 5}, le(1, 0, 1))
	wantHolds(t, true, []int64{3, 5}, le(1, 0, 2))
	// Whichever of the facts is broken.
	for at := range 5 {
		many := slices.Repeat([]diff.Leq{le(0, 1, 1)}, 5)
		wantHolds(t, true, []int64{1, 0}, many...)
		many[at].C = 0
		wantHolds(t, false, []int64{1, 0}, many...)
	}
}

func TestP52NoFacts(t *testing.T) {
	for _, numbers := range [][]int64{nil, {}, {0}, {math.MinInt64, math.MaxInt64}} {
		wantHolds(t, true, numbers)
	}
}

func TestP52Variables(t *testing.T) {
	wantHolds(t, false, nil, le(0, 0, 0))
	wantHolds(t, true, []int64{0, 0}, le(0, 1, 0), le(1, 0, 0))
	for _, v := range []int{-1, 2, 3, -2, math.MinInt, math.MaxInt, 1 << 32, -1 << 32} {
		wantHolds(t, false, []int64{0, 0}, le(v, 0, 9))
		wantHolds(t, false, []int64{0, 0}, le(0, v, 9))
		wantHolds(t, false, []int64{0, 0}, le(v, v, 9))
		wantHolds(t, false, []int64{0, 0}, le(0, 1, 9), le(1, v, 9))
	}
	// There may be more numbers than a system of layer 4 has variables.
	many := make([]int64, 1000)
	many[999] = 4
	wantHolds(t, true, many, le(999, 500, 4))
	wantHolds(t, false, many, le(999, 500, 3))
}

func TestP52BoundOfC(t *testing.T) {
	const most = 1 << 44
	wantHolds(t, true, []int64{most, 0}, le(0, 1, most), le(1, 0, -most))
	wantHolds(t, false, []int64{most + 1, 0}, le(0, 1, most))
	wantHolds(t, false, []int64{most - 1, 0}, le(1, 0, -most))
	for _, c := range []int64{most + 1, 1 << 62, math.MaxInt64} {
		wantHolds(t, false, []int64{0, 0}, le(0, 1, c))
		wantHolds(t, false, []int64{0, 0}, le(0, 1, 5), le(1, 1, c))
		wantHolds(t, false, []int64{-1 << 52, 1 << 52}, le(0, 1, -c))
	}
	wantHolds(t, false, []int64{-1 << 52, 1 << 52}, le(0, 1, math.MinInt64))
}

func TestP52BoundOfNumbers(t *testing.T) {
	const most = 1 << 52
	wantHolds(t, true, []int64{most, most}, le(0, 1, 0), le(1, 0, 0))
	wantHolds(t, true, []int64{-most, -most}, le(0, 1, 0), le(1, 0, 0))
	wantHolds(t, true, []int64{-most, most}, le(0, 1, -1<<44))
	wantHolds(t, false, []int64{most, -most}, le(0, 1, 1<<44))
	for _, far := range []int64{most + 1, -most - 1, math.MaxInt64, math.MinInt64, 1 << 62} {
		wantHolds(t, false, []int64{far}, le(0, 0, 0))
		wantHolds(t, false, []int64{far, far}, le(0, 1, 0))
		for _, near := range []int64{0, most, -most} {
			wantHolds(t, false, []int64{far, near}, le(0, 1, 1<<44))
			wantHolds(t, false, []int64{near, far}, le(0, 1, 1<<44))
			wantHolds(t, false, []int64{near, far}, le(0, 0, 0), le(1, 0, -1<<44))
			wantHolds(t, false, []int64{near, far}, le(0, 1, -1<<44))
		}
		// The number of a variable that no fact names isn't asked.
		wantHolds(t, true, []int64{far, 3, far, 2, far}, le(1, 3, 1), le(3, 1, -1))
	}
}

func TestP53Ordinary(t *testing.T) {
	facts := []diff.Leq{le(0, 1, 2), le(1, 2, 3)}
	yes := wantProof(t, true, 3, le(0, 2, 5), facts...)
	if slices.Sort(yes.Cycle); !slices.Equal(yes.Cycle, []int{0, 1, 2}) {
		t.Errorf("P5.3: the chapter's example: %v", yes.Cycle)
	}
	wantProof(t, false, 3, le(0, 2, 4), facts...)
	wantProof(t, true, 3, le(0, 1, 2), facts...)
	wantProof(t, false, 3, le(0, 1, 1), facts...)
	wantProof(t, false, 3, le(2, 0, 9), facts...)
	wantProof(t, true, 3, le(0, 0, 0), facts...)
	wantProof(t, false, 3, le(0, 0, -1), facts...)
	wantProof(t, false, 4, le(0, 3, 100), facts...)
	wantProof(t, false, 4, le(3, 0, 100), facts...)
	// Without facts.
	for _, n := range []int{1, 2, api.MaxVars} {
		wantProof(t, true, n, le(n-1, n-1, 0))
		wantProof(t, false, n, le(n-1, n-1, -1))
	}
	wantProof(t, false, 2, le(0, 1, api.MaxDiff-1))
}

func TestP53FactsWithoutSolution(t *testing.T) {
	for _, facts := range [][]diff.Leq{{le(0, 0, -1)}, {le(2, 3, -1), le(3, 2, 0)}, {le(0, 1, 7), le(3, 3, -api.MaxDiff)}} {
		for x := range 5 {
			for _, c := range []int64{-api.MaxDiff, -1, 0, api.MaxDiff - 1} {
				wantProof(t, true, 5, le(x, 4-x, c), facts...)
			}
		}
	}
}

func TestP53GreatNumbers(t *testing.T) {
	last := api.MaxVars - 1
	for _, c := range []int64{api.MaxDiff, -api.MaxDiff} {
		facts := chain(api.MaxVars, c)
		for _, goal := range []diff.Leq{le(0, last, api.MaxDiff-1), le(last, 0, api.MaxDiff-1), le(0, last, -api.MaxDiff), le(last, 0, -api.MaxDiff), le(last, last, 0)} {
			want, _ := diff.Entails(api.MaxVars, goal, facts...)
			wantProof(t, want, api.MaxVars, goal, facts...)
		}
		// The numbers spread as far as they can, from both ends, and a goal at the other end of them.
		for at := range facts {
			facts[at] = le(at+1, at, c)
		}
		wantProof(t, c < 0, api.MaxVars, le(last, 0, -api.MaxDiff), facts...)
		wantProof(t, false, api.MaxVars, le(0, last, api.MaxDiff-1), facts...)
	}
	wantProof(t, true, 2, le(0, 1, -api.MaxDiff), le(0, 1, -api.MaxDiff))
	wantProof(t, false, 2, le(0, 1, -api.MaxDiff), le(0, 1, -api.MaxDiff+1))
	wantProof(t, false, 2, le(0, 1, api.MaxDiff-1), le(0, 1, api.MaxDiff))
	wantProof(t, true, api.MaxVars, le(0, last, int64(last)*3), chain(api.MaxVars, 3)...)
	wantProof(t, false, api.MaxVars, le(0, last, int64(last)*3-1), chain(api.MaxVars, 3)...)
}

func TestP53AsManyFactsAsMayBe(t *testing.T) {
	facts := make([]diff.Leq, api.MaxFacts-1)
	facts[api.MaxFacts-2] = le(0, 95, 6)
	if p := wantProof(t, true, api.MaxVars, le(0, 95, 6), facts...); !slices.Contains(p.Cycle, api.MaxFacts-1) {
		t.Errorf("P5.3: %v, want the turned goal's number %d in it", p.Cycle, api.MaxFacts-1)
	}
	wantProof(t, false, api.MaxVars, le(0, 95, 5), facts...)
}

// oddFacts: facts of which each has one number outside of what a system of n variables may have.
func oddFacts(n int) []diff.Leq {
	var out []diff.Leq
	for _, v := range []int{-1, n, n + 1, -n, api.MaxVars, math.MinInt, math.MaxInt, 1 << 32, -1 << 32} {
		out = append(out, le(v, 0, 0), le(0, v, 0))
	}
	for _, c := range []int64{api.MaxDiff + 1, -api.MaxDiff - 1, 1 << 44, -1 << 44, math.MaxInt64, math.MinInt64, math.MinInt64 + 1} {
		out = append(out, le(0, 1, c), le(2, 2, c))
	}
	return out
}

func TestP53P54Refused(t *testing.T) {
	fine := le(0, 1, 0)
	for _, n := range []int{0, -1, api.MaxVars + 1, math.MinInt, math.MaxInt} {
		wantRefused(t, api.ErrArg, n, le(0, 0, 0))
		wantRefused(t, api.ErrArg, n, fine, fine, le(0, 0, -1))
		wantRefused(t, api.ErrMany, n, fine, make([]diff.Leq, api.MaxFacts)...)
	}
	for _, odd := range append(oddFacts(5), le(0, 1, api.MaxDiff), le(3, 3, api.MaxDiff)) {
		wantRefused(t, api.ErrArg, 5, odd)
		wantRefused(t, api.ErrArg, 5, odd, fine)
		wantRefused(t, api.ErrArg, 5, odd, le(0, 0, -1))
		wantRefused(t, api.ErrArg, 5, odd, make([]diff.Leq, api.MaxFacts-1)...)
		wantRefused(t, api.ErrMany, 5, odd, make([]diff.Leq, api.MaxFacts)...)
	}
	for _, odd := range oddFacts(5) {
		wantRefused(t, api.ErrArg, 5, fine, odd)
		wantRefused(t, api.ErrArg, 5, fine, le(0, 0, -1), odd)
		wantRefused(t, api.ErrArg, 5, fine, append(make([]diff.Leq, api.MaxFacts-2), odd)...)
		wantRefused(t, api.ErrMany, 5, fine, append(make([]diff.Leq, api.MaxFacts-1), odd)...)
	}
	broken := slices.Repeat([]diff.Leq{le(0, 0, -1)}, api.MaxFacts+1)
	wantRefused(t, api.ErrMany, 2, fine, broken[:api.MaxFacts]...)
	wantRefused(t, api.ErrMany, 2, fine, broken...)
	wantRefused(t, api.ErrMany, 2, fine, make([]diff.Leq, 1<<20)...)
	// What is just inside of each bound is taken: the numbers 1, 0 break the goal, and only facts that hold of them leave a proof of that.
	for _, f := range []diff.Leq{le(0, 1, api.MaxDiff), le(0, 4, api.MaxDiff), le(4, 0, api.MaxDiff)} {
		wantCheck(t, true, Proof{Numbers: []int64{1, 0, 0, 0, 0}}, 5, fine, f)
	}
	wantCheck(t, true, Proof{Yes: true, Cycle: []int{0}}, 5, le(4, 4, -api.MaxDiff), le(4, 4, -api.MaxDiff))
	wantCheck(t, true, Proof{Yes: true, Cycle: []int{api.MaxFacts - 2}}, 5, fine, broken[:api.MaxFacts-1]...)
	wantCheck(t, true, Proof{Yes: true, Cycle: []int{0}}, api.MaxVars, le(95, 0, api.MaxDiff-1), le(95, 95, -1))
	wantCheck(t, true, Proof{Yes: true, Cycle: []int{0}}, 1, le(0, 0, 0))
}

func TestP54Yes(t *testing.T) {
	facts := []diff.Leq{le(0, 1, 2), le(1, 2, 3)}
	goal := le(0, 2, 5)
	yes := func(cycle ...int) Proof { return Proof{Yes: true, Cycle: cycle} }
	for _, p := range []Proof{yes(0, 1, 2), yes(1, 2, 0), yes(2, 0, 1), yes(0, 1, 2, 0, 1, 2)} {
		wantCheck(t, true, p, 3, goal, facts...)
		wantCheck(t, true, p, 3, le(0, 2, 6), facts...)
		wantCheck(t, true, p, api.MaxVars, goal, facts...)
		wantCheck(t, true, Proof{Yes: true, Cycle: p.Cycle, Numbers: []int64{}}, 3, goal, facts...)
		// Of another goal: at C together 0 in place of -1, from another variable, and turned round.
		wantCheck(t, false, p, 3, le(0, 2, 4), facts...)
		wantCheck(t, false, p, 3, le(0, 1, 5), facts...)
		wantCheck(t, false, p, 3, le(1, 2, 5), facts...)
		wantCheck(t, false, p, 3, le(2, 0, 5), facts...)
		// Of another system: with a fact changed, turned round, missing, ahead of the others, or behind them, where the number isn't the turned goal's any more.
		wantCheck(t, false, p, 3, goal, facts[0], le(1, 2, 4))
		wantCheck(t, false, p, 3, goal, facts[0], le(2, 1, 3))
		wantCheck(t, false, p, 3, goal, facts[0])
		wantCheck(t, false, p, 3, goal)
		wantCheck(t, false, p, 3, goal, facts[1], facts[0])
		wantCheck(t, false, p, 3, goal, le(0, 0, 0), facts[0], facts[1])
		wantCheck(t, false, p, 3, goal, facts[0], facts[1], le(0, 0, 0))
		// With what belongs to the other kind.
		wantCheck(t, false, Proof{Yes: true, Cycle: p.Cycle, Numbers: []int64{0}}, 3, goal, facts...)
		wantCheck(t, false, Proof{Yes: true, Cycle: p.Cycle, Numbers: []int64{6, 3, 0}}, 3, goal, facts...)
		wantCheck(t, false, Proof{Cycle: p.Cycle}, 3, goal, facts...)
	}
	for _, p := range []Proof{yes(), yes(0), yes(2), yes(0, 1), yes(2, 1, 0), yes(0, 1, 3), yes(0, 1, -1), yes(-1), yes(3), yes(math.MinInt), yes(math.MaxInt), yes(0, 1, 2, 3)} {
		wantCheck(t, false, p, 3, goal, facts...)
	}
	// The turned goal alone, and a circle of the facts alone.
	wantCheck(t, true, yes(0), 1, le(0, 0, 0))
	wantCheck(t, false, yes(0), 1, le(0, 0, -1))
	wantCheck(t, true, yes(1), 1, le(0, 0, 0), le(0, 0, 5))
	wantCheck(t, true, yes(1, 0), 3, le(0, 2, -7), le(0, 1, -1), le(1, 0, 0))
	wantCheck(t, false, yes(1, 0), 3, le(0, 2, -7), le(0, 1, -1), le(1, 0, 1))
	wantCheck(t, false, Proof{Numbers: []int64{0, 0, 0}}, 3, le(0, 2, -7), le(0, 1, -1), le(1, 0, 0))
}

// TestP54LongCircle: a proof's circle is one of layer 4, which may be of any length; also of one at which the sum of the C has no room in 64 bits.
func TestP54LongCircle(t *testing.T) {
	yes := func(many int) Proof { return Proof{Yes: true, Cycle: make([]int, many)} }
	for _, many := range []int{1 << 16, 1<<16 + 1, 1 << 20, 1<<20 + 1, 1<<21 - 1, 1 << 21, 3 << 20} {
		wantCheck(t, true, yes(many), 1, le(0, 0, 5), le(0, 0, -api.MaxDiff))
		wantCheck(t, true, yes(many), 1, le(0, 0, 5), le(0, 0, -1))
		wantCheck(t, false, yes(many), 1, le(0, 0, 5), le(0, 0, 0))
		wantCheck(t, false, yes(many), 1, le(0, 0, 5), le(0, 0, 1))
		wantCheck(t, false, yes(many), 1, le(0, 0, 5), le(0, 0, api.MaxDiff))
	}
	// As much up as down, and the turned goal's -1 behind it.
	even := append(make([]int, 1<<21), slices.Repeat([]int{1}, 1<<21)...)
	facts := []diff.Leq{le(0, 0, api.MaxDiff), le(0, 0, -api.MaxDiff)}
	wantCheck(t, false, Proof{Yes: true, Cycle: even}, 1, le(0, 0, 0), facts...)
	even = append(even, 2)
	wantCheck(t, true, Proof{Yes: true, Cycle: even}, 1, le(0, 0, 0), facts...)
	wantCheck(t, false, Proof{Yes: true, Cycle: even}, 1, le(0, 0, -1), facts...)
}

func TestP54No(t *testing.T) {
	facts := []diff.Leq{le(0, 1, 2), le(1, 2, 3)}
	goal := le(0, 2, 4)
	no := func(numbers ...int64) Proof { return Proof{Numbers: numbers} }
	for _, p := range []Proof{no(5, 3, 0), no(0, -2, -5), no(105, 103, 100), no(5, 3, 0)} {
		wantCheck(t, true, p, 3, goal, facts...)
		wantCheck(t, true, Proof{Numbers: p.Numbers, Cycle: []int{}}, 3, goal, facts...)
		wantCheck(t, true, p, 3, le(0, 2, -8), facts...)
		wantCheck(t, true, p, 3, goal)
		// Of another goal or another system.
		wantCheck(t, false, p, 3, le(0, 2, 5), facts...)
		wantCheck(t, false, p, 3, le(2, 0, 4), facts...)
		wantCheck(t, false, p, 3, goal, facts[0], le(1, 2, 2))
		wantCheck(t, false, p, 3, goal, facts[0], facts[1], le(2, 0, -6))
		wantCheck(t, true, p, 3, goal, facts[0], facts[1], le(2, 0, -5))
		// Of another number of variables, and with what belongs to the other kind.
		wantCheck(t, false, p, 4, goal, facts...)
		wantCheck(t, false, no(append(p.Numbers, 0)...), 3, goal, facts...)
		wantCheck(t, true, no(append(p.Numbers, 0)...), 4, goal, facts...)
		wantCheck(t, false, Proof{Numbers: p.Numbers, Cycle: []int{0}}, 3, goal, facts...)
		wantCheck(t, false, Proof{Numbers: p.Numbers, Cycle: []int{0, 1, 2}}, 3, goal, facts...)
		wantCheck(t, false, Proof{Yes: true, Numbers: p.Numbers}, 3, goal, facts...)
	}
	for _, p := range []Proof{no(), no(5, 3), no(4, 3, 0), no(6, 3, 0), no(5, 4, 0), no(0, 0, 0)} {
		wantCheck(t, false, p, 3, goal, facts...)
	}
	// Numbers fewer than there are variables, also where no fact names the last of them.
	wantCheck(t, false, no(5, 3, 0), 96, goal, facts...)
	wantCheck(t, false, no(), 1, le(0, 0, -1))
	wantCheck(t, true, no(0), 1, le(0, 0, -1))
	wantCheck(t, false, no(0), 1, le(0, 0, 0))
}

func TestP54BoundOfNumbers(t *testing.T) {
	const most = 1 << 52
	no := func(numbers ...int64) Proof { return Proof{Numbers: numbers} }
	for _, near := range []int64{most, -most} {
		wantCheck(t, true, no(near, near, 0), 3, le(0, 1, -1))
		wantCheck(t, true, no(0, -1, near), 3, le(0, 1, 0), le(2, 2, 0))
	}
	wantCheck(t, true, no(most, -most), 2, le(0, 1, api.MaxDiff-1))
	wantCheck(t, true, no(-most, most), 2, le(1, 0, 0), le(0, 1, -api.MaxDiff))
	for _, far := range []int64{most + 1, -most - 1, math.MaxInt64, math.MinInt64} {
		// Of a variable that the goal or a fact names, and of one that none names.
		wantCheck(t, false, no(far, far, 0), 3, le(0, 1, -1))
		wantCheck(t, false, no(far, 0, 0), 3, le(0, 0, -1))
		wantCheck(t, false, no(far, 0, 0), 3, le(0, 1, 0))
		wantCheck(t, false, no(0, far, 0), 3, le(0, 1, 0))
		wantCheck(t, false, no(0, -1, far), 3, le(0, 1, 0), le(2, 2, 0))
		wantCheck(t, true, no(0, -1, far), 3, le(0, 1, 0))
		wantCheck(t, true, no(far, 0, -1), 3, le(1, 2, 0), le(1, 2, 9))
	}
}

// TestRule4: what is handed in stays as it was, also behind its length; what is answered is new memory.
func TestRule4(t *testing.T) {
	whole := []diff.Leq{le(0, 1, -2), le(1, 2, 5), le(7, 7, 7), le(8, 8, 8)}
	before := slices.Clone(whole)
	cycle := []int{0, 1, 2, 9, 9}
	numbers := []int64{3, 5, 0, 9, 9}
	for many := range len(whole) {
		facts := whole[:many]
		Circle(cycle[:3], facts...)
		Holds(numbers[:3], facts...)
		for _, goal := range []diff.Leq{le(0, 2, 3), le(0, 2, 2), le(9, 2, 2)} {
			Prove(3, goal, facts...)
			Check(Proof{Yes: true, Cycle: cycle[:3]}, 3, goal, facts...)
			Check(Proof{Numbers: numbers[:3]}, 3, goal, facts...)
		}
	}
	if !slices.Equal(whole, before) || !slices.Equal(cycle, []int{0, 1, 2, 9, 9}) || !slices.Equal(numbers, []int64{3, 5, 0, 9, 9}) {
		t.Errorf("rule 4: %v was %v; %v, %v", whole, before, cycle, numbers)
	}
	for _, c := range []int64{3, 2} {
		first := wantProof(t, c == 3, 3, le(0, 2, c), whole[:2]...)
		again := wantProof(t, c == 3, 3, le(0, 2, c), whole[:2]...)
		if !slices.Equal(first.Cycle, again.Cycle) || !slices.Equal(first.Numbers, again.Numbers) {
			t.Errorf("rule 8: %v, then %v", first, again)
		}
		for i := range first.Cycle {
			first.Cycle[i] = 44
		}
		for i := range first.Numbers {
			first.Numbers[i] = 44
		}
		if !Check(again, 3, le(0, 2, c), whole[:2]...) {
			t.Errorf("rule 4: one proof's lists are another one's: %v", again)
		}
		wantProof(t, c == 3, 3, le(0, 2, c), whole[:2]...)
	}
}
