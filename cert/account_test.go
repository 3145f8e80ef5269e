package cert

import (
	"math/big"
	"math/rand"
	"slices"
	"testing"

	"lychgate/api"
	"lychgate/diff"
)

// The second account of the chapter's words reckons without a bound of its own.

func far(v int64, bits uint) bool {
	return new(big.Int).Abs(big.NewInt(v)).Cmp(new(big.Int).Lsh(big.NewInt(1), bits)) > 0
}

// circleFault: why the list is no circle of the facts by layer 4's words; empty, if it is one.
func circleFault(cycle []int, facts []diff.Leq) string {
	if len(cycle) == 0 {
		return "no numbers"
	}
	sum := new(big.Int)
	for i, number := range cycle {
		next := cycle[(i+1)%len(cycle)]
		if number < 0 || number >= len(facts) || next < 0 || next >= len(facts) {
			return "a number of no fact"
		}
		if facts[number].Y != facts[next].X {
			return "a Y that isn't the X of the next one"
		}
		sum.Add(sum, big.NewInt(facts[number].C))
	}
	if sum.Sign() >= 0 {
		return "a sum that isn't below 0"
	}
	return ""
}

func isCircleByWords(cycle []int, facts []diff.Leq) bool {
	return len(cycle) <= 65536 && circleFault(cycle, facts) == "" &&
		!slices.ContainsFunc(cycle, func(number int) bool { return far(facts[number].C, 44) })
}

// holdsByWords: does the fact hold of these numbers?
func holdsByWords(numbers []int64, f diff.Leq) bool {
	less := new(big.Int).Sub(big.NewInt(numbers[f.X]), big.NewInt(numbers[f.Y]))
	return less.Cmp(big.NewInt(f.C)) <= 0
}

func allHoldByWords(numbers []int64, facts []diff.Leq) bool {
	for _, f := range facts {
		if min(f.X, f.Y) < 0 || max(f.X, f.Y) > len(numbers)-1 || far(f.C, 44) {
			return false
		}
		if far(numbers[f.X], 52) || far(numbers[f.Y], 52) || !holdsByWords(numbers, f) {
			return false
		}
	}
	return true
}

// proofFault: why it is no proof by the chapter's words; empty, if it is one. The system may be asked.
func proofFault(p Proof, n int, goal diff.Leq, facts []diff.Leq) string {
	if p.Yes {
		if len(p.Numbers) != 0 {
			return "numbers beside a circle"
		}
		return circleFault(p.Cycle, slices.Concat(facts, []diff.Leq{le(goal.Y, goal.X, -goal.C-1)}))
	}
	if len(p.Cycle) != 0 {
		return "a cycle beside numbers"
	}
	if len(p.Numbers) != n {
		return "another number of numbers than there are variables"
	}
	for _, f := range append(slices.Clone(facts), goal) {
		if far(p.Numbers[f.X], 52) || far(p.Numbers[f.Y], 52) {
			return "a number that is too far from 0"
		}
	}
	if !allHoldByWords(p.Numbers, facts) {
		return "numbers that break a fact"
	}
	if holdsByWords(p.Numbers, goal) {
		return "numbers that fulfil the goal"
	}
	return ""
}

// mayBeAsked: does diff.Entails answer no error, by its words?
func mayBeAsked(n int, goal diff.Leq, facts []diff.Leq) bool {
	if n < 1 || n > api.MaxVars || len(facts)+1 > api.MaxFacts || goal.C == api.MaxDiff {
		return false
	}
	for _, f := range append(slices.Clone(facts), goal) {
		if min(f.X, f.Y) < 0 || max(f.X, f.Y) >= n || far(f.C, 43) {
			return false
		}
	}
	return true
}

// lists calls do with every list of length many of these.
func lists[T any](many int, of []T, do func([]T)) {
	list := make([]T, many)
	var fill func(int)
	fill = func(at int) {
		if at == many {
			do(list)
			return
		}
		for _, v := range of {
			list[at] = v
			fill(at + 1)
		}
	}
	fill(0)
}

// smallFacts: all facts of n variables with a C from -most to most.
func smallFacts(n int, most int64) []diff.Leq {
	var out []diff.Leq
	for x := range n {
		for y := range n {
			for c := -most; c <= most; c++ {
				out = append(out, le(x, y, c))
			}
		}
	}
	return out
}

// TestP51P52AllSmall: all cycles and all numbers, also odd ones, of facts among which some are odd.
func TestP51P52AllSmall(t *testing.T) {
	is, isnt := 0, 0
	count := func(want bool) {
		if want {
			is++
		} else {
			isnt++
		}
	}
	facts := []diff.Leq{le(0, 1, -1), le(1, 0, 1), le(1, 0, 0), le(1, 2, 2), le(2, 0, -2), le(2, 2, -1<<44-1), le(0, 0, 3), le(-1, 3, 5)}
	for many := range 6 {
		lists(many, []int{-1, 0, 1, 2, 3, 4, 5, 6, 7, 8}, func(cycle []int) {
			want := isCircleByWords(cycle, facts)
			wantIsCircle(t, want, cycle, facts...)
			count(want)
		})
	}
	for many := range 4 {
		lists(many, []int64{-1<<52 - 1, -1 << 52, -2, -1, 0, 1, 2, 3, 1 << 52, 1<<52 + 1}, func(numbers []int64) {
			for from := range facts {
				for to := from; to <= len(facts); to++ {
					want := allHoldByWords(numbers, facts[from:to])
					wantHolds(t, want, numbers, facts[from:to]...)
					count(want)
				}
			}
		})
	}
	if is < 1000 || isnt < 1000 {
		t.Errorf("P5.1, P5.2: %d are and %d aren't: too few of one to tell", is, isnt)
	}
}

// followsTried: does the goal hold in all solutions that are gone through? Those are enough, if the C are from -1 to 1 and there are two variables.
func followsTried(goal diff.Leq, facts []diff.Leq) bool {
	follows := true
	lists(2, []int64{-2, -1, 0, 1, 2}, func(numbers []int64) {
		if allHoldByWords(numbers, facts) && !holdsByWords(numbers, goal) {
			follows = false
		}
	})
	return follows
}

// TestP53P54P55AllSmall: all goals of all systems of few facts with small numbers; Prove proves what holds when all numbers are tried, and Check takes all proofs of that and none of the opposite.
func TestP53P54P55AllSmall(t *testing.T) {
	all := smallFacts(2, 1)
	for many := range 3 {
		lists(many, all, func(facts []diff.Leq) {
			for _, goal := range all {
				follows := followsTried(goal, facts)
				wantProof(t, follows, 2, goal, facts...)
				wantAllProofs(t, follows, 2, goal, facts)
			}
		})
	}
}

// wantAllProofs holds Check against the second account, for all short cycles and all small numbers: what it takes is a proof, and of what is so.
func wantAllProofs(t *testing.T, follows bool, n int, goal diff.Leq, facts []diff.Leq) {
	t.Helper()
	ask := func(p Proof) {
		want := proofFault(p, n, goal, facts) == ""
		wantCheck(t, want, p, n, goal, facts...)
		if want && p.Yes != follows {
			t.Errorf("P5.5: the goal %v, the facts %v: the proof %v is wrong", goal, facts, p)
		}
	}
	for many := range 4 {
		lists(many, []int{0, 1, 2}, func(cycle []int) { ask(Proof{Yes: true, Cycle: cycle}) })
		lists(many, []int64{-1, 0, 1, 2}, func(numbers []int64) { ask(Proof{Numbers: numbers}) })
	}
}

// drawn: facts that hold of some numbers, with at most this much room in each; a last one may take some of it back.
func drawn(r *rand.Rand, n, many int, room int64) []diff.Leq {
	numbers := make([]int64, n)
	for i := range numbers {
		numbers[i] = r.Int63n(api.MaxDiff / 4)
	}
	var facts []diff.Leq
	for range many {
		x, y := r.Intn(n), r.Intn(n)
		facts = append(facts, le(x, y, numbers[x]-numbers[y]+r.Int63n(room)))
	}
	if r.Intn(2) == 0 {
		x, y := r.Intn(n), r.Intn(n)
		facts = append(facts, le(x, y, numbers[x]-numbers[y]-1-r.Int63n(room)))
	}
	return facts
}

// tampered: the proof with one thing of it changed.
func tampered(r *rand.Rand, p Proof, many int) Proof {
	p.Cycle, p.Numbers = slices.Clone(p.Cycle), slices.Clone(p.Numbers)
	switch r.Intn(5) {
	case 0:
		p.Yes = !p.Yes
	case 1:
		p.Cycle = append(p.Cycle, r.Intn(many+1))
	case 2:
		p.Numbers = append(p.Numbers, 0)
	case 3:
		if len(p.Cycle) > 0 {
			p.Cycle[r.Intn(len(p.Cycle))] = r.Intn(many+3) - 1
		} else {
			p.Numbers[r.Intn(len(p.Numbers))] += r.Int63n(5) - 2
		}
	case 4:
		if len(p.Cycle) > 0 {
			p.Cycle = slices.Delete(p.Cycle, 0, 1)
		} else {
			p.Numbers[r.Intn(len(p.Numbers))] = 1 << 53
		}
	}
	return p
}

// TestP53P54P55Drawn: greater systems, drawn anew the same way each time, with proofs that are tampered with.
func TestP53P54P55Drawn(t *testing.T) {
	r := rand.New(rand.NewSource(5))
	follow, dont, refused := 0, 0, 0
	for range 2000 {
		n := 1 + r.Intn(12)
		facts := drawn(r, n, r.Intn(5*n), []int64{1, 2, 10, 1 << 30}[r.Intn(4)])
		goal := le(r.Intn(n), r.Intn(n), r.Int63n(2*api.MaxDiff)-api.MaxDiff)
		if numbers, _, _ := diff.Solve(n, facts...); r.Intn(2) == 0 && len(numbers) > 0 {
			goal.C = numbers[goal.X] - numbers[goal.Y] + r.Int63n(3) - 1
		}
		want, e := diff.Entails(n, goal, facts...)
		if e != api.OK {
			wantRefused(t, e, n, goal, facts...)
			continue
		}
		p := wantProof(t, want, n, goal, facts...)
		if want {
			follow++
		} else {
			dont++
		}
		for range 10 {
			other := tampered(r, p, len(facts))
			fine := proofFault(other, n, goal, facts) == ""
			wantCheck(t, fine, other, n, goal, facts...)
			if !fine {
				refused++
			} else if other.Yes != want {
				t.Errorf("P5.5: the goal %v, the facts %v: the proof %v is wrong", goal, facts, other)
			}
		}
	}
	if follow < 200 || dont < 200 || refused < 5000 {
		t.Errorf("P5.3, P5.4: %d goals follow, %d don't, %d proofs are refused: too few of one to tell", follow, dont, refused)
	}
}

// stretched: a small number, or one at a bound where the byte is near its end.
func stretched(b byte, bound int64) int64 {
	v := int64(int8(b))
	switch {
	case v >= 120:
		return bound + 124 - v
	case v <= -120:
		return -bound - 124 - v
	}
	return v
}

// factsOf: a system read from bytes, three of them a fact; also odd ones.
func factsOf(data []byte, bound int64) []diff.Leq {
	var facts []diff.Leq
	for ; len(data) >= 3; data = data[3:] {
		facts = append(facts, le(int(data[0])-1, int(data[1])-1, stretched(data[2], bound)))
	}
	return facts
}

func FuzzCheck(f *testing.F) {
	f.Add(3, false, []byte{1, 3, 5, 1, 2, 2, 2, 3, 3}, []byte{0, 1, 2}, []byte{})
	f.Add(3, true, []byte{1, 3, 4, 1, 2, 2, 2, 3, 3}, []byte{}, []byte{5, 3, 0})
	f.Add(2, true, []byte{1, 2, 124, 2, 1, 132}, []byte{1}, []byte{124, 132})
	f.Add(1, true, []byte{0, 2, 0}, []byte{255}, []byte{0})
	f.Fuzz(func(t *testing.T, n int, no bool, system, cycle, numbers []byte) {
		p := Proof{Yes: !no}
		for _, b := range cycle {
			p.Cycle = append(p.Cycle, int(int8(b)))
		}
		for _, b := range numbers {
			p.Numbers = append(p.Numbers, stretched(b, 1<<52))
		}
		wide := factsOf(system, 1<<44)
		wantIsCircle(t, isCircleByWords(p.Cycle, wide), p.Cycle, wide...)
		wantHolds(t, allHoldByWords(p.Numbers, wide), p.Numbers, wide...)
		goal, facts := le(0, 0, 0), factsOf(system, api.MaxDiff)
		if len(facts) > 0 {
			goal, facts = facts[0], facts[1:]
		}
		follows, e := diff.Entails(n, goal, facts...)
		if !mayBeAsked(n, goal, facts) {
			wantRefused(t, e, n, goal, facts...)
			wantCheck(t, false, p, n, goal, facts...)
			return
		}
		wantProof(t, follows, n, goal, facts...)
		want := proofFault(p, n, goal, facts) == ""
		wantCheck(t, want, p, n, goal, facts...)
		if want && p.Yes != follows {
			t.Errorf("P5.5: the goal %v, the facts %v: the proof %v is wrong", goal, facts, p)
		}
	})
}
