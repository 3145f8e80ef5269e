package sched

import (
	"math"
	"slices"
	"strings"
	"testing"

	"lychgate/api"
	"lychgate/link"
	"lychgate/mem"
	"lychgate/state"
)

func wantFound(t *testing.T, m link.Image, n, most int, want []int) {
	t.Helper()
	got, ok := Search(m, n, most)
	if !ok || !slices.Equal(got, want) {
		t.Errorf("P10.2: of %d picks, the first %d: got %v, %v, want %v", n, most, got, ok, want)
	}
}

func wantNone(t *testing.T, m link.Image, n, most int) {
	t.Helper()
	if got, ok := Search(m, n, most); ok || len(got) != 0 {
		t.Errorf("P10.2: of %d picks, the first %d: got %v, %v, want none", n, most, got, ok)
	}
}

// wantFirst: the script with this number, counted from 0 on, is the first one that is stuck.
func wantFirst(t *testing.T, m link.Image, number int, want []int) {
	t.Helper()
	n := len(want)
	for _, most := range []int{math.MinInt, -1, 0, 1, number - 1, number} {
		if most <= number {
			wantNone(t, m, n, most)
		}
	}
	for _, most := range []int{number + 1, number + 2, 4095, 4096, 4097, math.MaxInt} {
		if most > number {
			wantFound(t, m, n, most, want)
		}
	}
	if got := Run(m, want, n); got.End != state.Stuck {
		t.Errorf("P10.2: under %v %+v", want, got)
	}
}

// TestP102Zeros: what is stuck wherever it is picked is so under n zeros, if n steps are enough; n counts from 0 to 64.
func TestP102Zeros(t *testing.T) {
	m := mustLink(t, "", "fn main() { x = 1; x = 2; y = z; }")
	for _, n := range []int{3, 4, 5, 12, 13, 63, 64} {
		wantFirst(t, m, 0, make([]int, n))
	}
	for _, n := range []int{65, 66, 128, 4096, api.MaxSteps, math.MaxInt - 1, math.MaxInt} {
		for _, most := range []int{1, 2, 4096, math.MaxInt} {
			wantFound(t, m, n, most, make([]int, 64))
		}
		wantNone(t, m, n, 0)
	}
	for _, n := range []int{2, 1, 0, -1, -64, math.MinInt + 1, math.MinInt} {
		for _, most := range []int{math.MinInt, 0, 1, 9, 4096, math.MaxInt} {
			wantNone(t, m, n, most)
		}
	}
}

// TestP102FirstStep: a script of no picks is a run of no steps, which is never stuck.
func TestP102FirstStep(t *testing.T) {
	m := mustLink(t, "", "fn main() { x = y; }")
	wantFirst(t, m, 0, []int{0})
	for _, n := range []int{0, -1, -2, -64, -65, math.MinInt} {
		for _, most := range []int{-1, 0, 1, 2, 4096, math.MaxInt} {
			wantNone(t, m, n, most)
		}
	}
}

// TestP102MostPicks: scripts have 64 picks at most, so that what is stuck by a later step isn't found.
func TestP102MostPicks(t *testing.T) {
	// A round is three steps; with the Set ahead, the last Branch and the Return these are 63.
	const client = "fn main() { i = 0; while i < 20 { i = i + 1; } return x; }"
	at := strings.Index(client, "return")
	for _, c := range []struct {
		ahead string
		steps int
	}{{"", 63}, {"j = 0; ", 64}, {"j = 0; j = 1; ", 65}} {
		m := mustLink(t, "", strings.Replace(client, "i = 0; ", "i = 0; "+c.ahead, 1))
		wantRun(t, m, nil, 99, Outcome{End: state.Stuck, Why: mem.Empty, Steps: c.steps, At: at + len(c.ahead), Client: true})
		wantNone(t, m, c.steps-1, 9)
		for _, n := range []int{64, 65, 66, math.MaxInt} {
			if c.steps <= 64 {
				wantFound(t, m, n, 9, make([]int, 64))
			} else {
				wantNone(t, m, n, 9)
			}
		}
	}
}

// TestP102Order: the scripts are counted up, the last pick is the last digit.
func TestP102Order(t *testing.T) {
	// Both must have called and one must be at its write when the other one begins. The first two steps are main's anyway.
	race := mustLink(t, "fn w(p: &t) { p[0] = 1; }", "fn g(p: int) { w(p); } fn main() { p = new 1; fork g(p); w(p); }")
	for _, n := range []int{0, 1, 2, 3, 4, 5} {
		wantNone(t, race, n, 4096)
	}
	wantFirst(t, race, 3, []int{0, 0, 0, 0, 1, 1})
	// With 3 and 5 main has written ahead of the other one.
	wantFirst(t, race, 6, []int{0, 0, 0, 0, 1, 1, 0})
	wantFirst(t, race, 12, []int{0, 0, 0, 0, 1, 1, 0, 0})
	// Stuck as soon as the other one is picked, but for the first step, that main does.
	soon := mustLink(t, "", "fn w() { x = y; } fn main() { fork w(); while 0 < 1 { } }")
	wantFirst(t, soon, 1, []int{0, 1})
	wantFirst(t, soon, 1, []int{0, 0, 1})
	wantFirst(t, soon, 1, slices.Concat(make([]int, 63), []int{1}))
	// Where main is the one that mustn't be picked, the scripts with zeros are not stuck.
	ones := mustLink(t, "", "fn w() { x = 1; x = 2; x = y; } fn main() { fork w(); while 0 < 1 { } }")
	wantFirst(t, ones, 7, []int{0, 1, 1, 1})
	wantFirst(t, ones, 7, []int{0, 0, 1, 1, 1})
}

// lockImage is stuck under the scripts whose third or fourth pick is 1: behind these the other thread finds the cell written, and waits.
func lockImage(t *testing.T) link.Image {
	t.Helper()
	return mustLink(t, "", "fn w(p: int) { lock p[0]; } fn main() { p = new 1; fork w(p); p[0] = 1; }")
}

// TestP102Most: the first most scripts are looked at, and 4096 at most.
func TestP102Most(t *testing.T) {
	m := lockImage(t)
	wantFirst(t, m, 1, []int{0, 0, 0, 1})
	wantFirst(t, m, 2, []int{0, 0, 0, 1, 0})
	wantFirst(t, m, 64, slices.Concat([]int{0, 0, 0, 1}, make([]int, 6)))
	wantFirst(t, m, 2048, slices.Concat([]int{0, 0, 0, 1}, make([]int, 11)))
	for _, most := range []int{0, 1, 4095, 4096, 4097, 4098, 8192, api.MaxSteps, math.MaxInt} {
		wantNone(t, m, 16, most)
		wantNone(t, m, 64, most)
	}
	if got := Run(m, slices.Concat([]int{0, 0, 0, 1}, make([]int, 12)), 16); got.End != state.Stuck {
		t.Errorf("P10.1: the script with the number 4096 comes to %+v", got)
	}
	// The last one that is looked at has twelve ones.
	body := "x = 1; x = 1; x = 1; x = 1; x = 1; x = 1; x = 1; x = 1; x = 1; x = 1; x = 1; "
	last := mustLink(t, "", "fn w() { "+body+"x = y; } fn main() { fork w(); while 0 < 1 { } }")
	wantFirst(t, last, 4095, slices.Concat([]int{0}, slices.Repeat([]int{1}, 12)))
	wantFirst(t, last, 4095, slices.Concat(make([]int, 52), slices.Repeat([]int{1}, 12)))
	beyond := mustLink(t, "", "fn w() { "+body+"x = 1; x = y; } fn main() { fork w(); while 0 < 1 { } }")
	for _, n := range []int{13, 14, 64} {
		wantNone(t, beyond, n, 4096)
		wantNone(t, beyond, n, 8192)
		wantNone(t, beyond, n, math.MaxInt)
	}
}

// TestP102FewScripts: there are fewer scripts than are asked for.
func TestP102FewScripts(t *testing.T) {
	never := mustLink(t, "fn f() { }", "fn w() { f(); } fn main() { fork w(); f(); }")
	for n := range 15 {
		for _, most := range []int{math.MinInt, -1, 0, 1, 1<<n - 1, 1 << n, 1<<n + 1, 4096, math.MaxInt} {
			wantNone(t, never, n, most)
		}
	}
	ones := mustLink(t, "", "fn w() { x = 1; x = y; } fn main() { fork w(); while 0 < 1 { } }")
	wantFirst(t, ones, 3, []int{0, 1, 1})
	wantNone(t, ones, 2, 4096)
}

// TestCountUp: behind all ones there is no next script. (That the first pick is counted too no run tells, as there is but one thread at its beginning.)
func TestCountUp(t *testing.T) {
	for n := range 7 {
		script := make([]int, n)
		for number := 1; number < 1<<n; number++ {
			if !countUp(script) {
				t.Fatalf("P10.2: of %d picks there is no script with the number %d", n, number)
			}
			for i, pick := range script {
				if pick != number>>(n-1-i)&1 {
					t.Fatalf("P10.2: the script with the number %d is %v", number, script)
				}
			}
		}
		if countUp(script) {
			t.Errorf("P10.2: of %d picks there are more than %d scripts", n, 1<<n)
		}
	}
}

// TestP102StuckAlone: no other end is found.
func TestP102StuckAlone(t *testing.T) {
	for _, body := range []string{"", "abort;", "x = 1099511627776; x = x + x;", "x = new 257;", "while 0 < 1 { }", "n = 1; p = array n; lock p[0]; lock p[0];"} {
		m := mustLink(t, "", "fn main() { "+body+" }")
		for _, n := range []int{0, 1, 2, 3, 4, 5, 9, 64, 65} {
			wantNone(t, m, n, 40)
		}
	}
	// What is aborted under most scripts is passed over.
	m := mustLink(t, "", "fn w() { x = y; } fn main() { fork w(); x = 1; abort; }")
	wantFirst(t, m, 1, []int{0, 0, 1})
	wantFirst(t, m, 2, []int{0, 0, 1, 0})
	wantFirst(t, m, 4, []int{0, 0, 1, 0, 0})
}

// TestP102NewMemory: what is written into an answer changes no other one.
func TestP102NewMemory(t *testing.T) {
	m := mustLink(t, "", "fn w() { x = y; } fn main() { fork w(); x = 1; abort; }")
	want := []int{0, 0, 1, 0}
	first, _ := Search(m, 4, 9)
	second, _ := Search(m, 4, 9)
	for i := range first {
		first[i] = 99
	}
	_ = append(first, 98, 97)
	if !slices.Equal(second, want) {
		t.Errorf("P10.2: an answer is %v, when another one is written into", second)
	}
	wantFound(t, m, 4, 9, want)
	wantFound(t, mustLink(t, "", "fn main() { x = y; }"), 4, 9, make([]int, 4))
}
