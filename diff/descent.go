package diff

// none stands for a variable where there is none.
const none = -1

// descent brings the variables' numbers down from 0, no further than the facts ask: where they come to rest, each is the greatest that it can be.
type descent struct {
	facts   []Leq
	numbers []int64
	by      []int // of each variable whose number was brought down: the fact that did it last
}

func newDescent(n int, facts ...Leq) *descent {
	return &descent{facts: facts, numbers: make([]int64, n), by: make([]int, n)}
}

// round asks each fact once, and brings the number of its X down if the fact doesn't hold; it tells the last variable that this was done to, or none.
// In MaxVars rounds of MaxFacts facts no number comes below -2^60: none of them wraps round.
func (d *descent) round() int {
	lowered := none
	for i, f := range d.facts {
		if most := d.numbers[f.Y] + f.C; most < d.numbers[f.X] {
			d.numbers[f.X] = most
			d.by[f.X] = i
			lowered = f.X
		}
	}
	return lowered
}

// plain: the numbers, less that of the variable 0.
func (d *descent) plain() []int64 {
	out := make([]int64, len(d.numbers))
	for i, number := range d.numbers {
		out[i] = number - d.numbers[0]
	}
	return out
}

// circle: a circle of facts, found from a variable that was brought down in the last of n rounds.
// A fact that brings a number down again does so since its Y came down behind its turn of the round before. So from the last of n rounds one can go back along n facts, and as there are n variables, that leads into a circle. Its C are together below 0: the fact that closed it still brought a number down.
func (d *descent) circle(lowered int) []int {
	first := lowered
	for range len(d.numbers) {
		first = d.behind(first)
	}
	out := []int{d.by[first]}
	for at := d.behind(first); at != first; at = d.behind(at) {
		out = append(out, d.by[at])
	}
	return out
}

// behind: the variable on whose account this one's number was brought down last.
func (d *descent) behind(variable int) int { return d.facts[d.by[variable]].Y }
