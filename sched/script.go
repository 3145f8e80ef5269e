package sched

import "iter"

const (
	maxPicks   = 64   // picks of a script that is searched for
	maxScripts = 4096 // scripts that are looked at in a search
)

// picks: a script's picks, again from the first one on behind the last one, without an end. A script without picks is as one of a zero.
func picks(script []int) iter.Seq[int] {
	if len(script) == 0 {
		script = []int{0}
	}
	return func(yield func(int) bool) {
		for {
			for _, pick := range script {
				if !yield(pick) {
					return
				}
			}
		}
	}
}

// countUp makes a script the next one, as a number whose digits are 0 and 1; false, if there was none behind it, so that it is all zeros again.
func countUp(script []int) bool {
	for i := len(script) - 1; i >= 0; i-- {
		script[i] = 1 - script[i]
		if script[i] == 1 {
			return true
		}
	}
	return false
}
