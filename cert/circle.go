package cert

import (
	"slices"

	"lychgate/diff"
)

// lowBits: so many bits of each C are added up apart from the others.
const lowBits = 22

// isCircle: is it a circle of facts whose C are from -maxC to maxC? It may be of any length: a proof's circle has no bound of its own.
func isCircle(cycle []int, facts ...diff.Leq) bool {
	odd := func(number int) bool {
		return number < 0 || number >= len(facts) || !within(facts[number].C, maxC)
	}
	if len(cycle) == 0 || slices.ContainsFunc(cycle, odd) {
		return false
	}
	return isJoined(cycle, facts...) && isBelowZero(cycle, facts...)
}

// isJoined: is the Y of each the X of the next one, and the Y of the last one the X of the first?
func isJoined(cycle []int, facts ...diff.Leq) bool {
	last := facts[cycle[len(cycle)-1]]
	for _, number := range cycle {
		if last.Y != facts[number].X {
			return false
		}
		last = facts[number]
	}
	return true
}

// isBelowZero: are all the C together below 0?
// A circle may be so long that their sum has no room in 64 bits. So the low bits, which are never below 0, and what stands above them are added up apart, and only what the low bits carry is added to the rest: it is below 0 just where the whole sum is.
func isBelowZero(cycle []int, facts ...diff.Leq) bool {
	var high, low int64
	for _, number := range cycle {
		c := facts[number].C
		high += c >> lowBits
		low += c & (1<<lowBits - 1)
	}
	return high+low>>lowBits < 0
}
