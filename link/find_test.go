package link

import (
	"math"
	"testing"

	"lychgate/code"
)

// found is what Find tells.
type found struct {
	at  int
	lib bool
	ok  bool
}

func wantFind(t *testing.T, m Image, name string, want found) {
	t.Helper()
	if at, lib, ok := m.Find(name); (found{at, lib, ok}) != want {
		t.Errorf("P8.2: %q of %v: %d, %v, %v; want %v", name, m, at, lib, ok, want)
	}
}

func TestP82(t *testing.T) {
	m := wantImage(t, "type t own;fn f(x:int){}fn g(){}", "type u own;fn w(y:int){}fn main(){z=1;}", 2, 3)
	for name, want := range map[string]found{
		"f":    {0, true, true},
		"g":    {1, true, true},
		"w":    {2, false, true},
		"main": {3, false, true},
		"":     {}, "t": {}, "u": {}, "x": {}, "y": {}, "z": {}, "F": {}, "ff": {}, "f ": {}, "mai": {}, "main1": {}, "\xff": {}, "fn": {},
	} {
		wantFind(t, m, name, want)
	}
	m = wantImage(t, "", "fn f(){}fn main(){}", 0, 1)
	wantFind(t, m, "f", found{0, false, true})
	wantFind(t, m, "main", found{1, false, true})
	wantFind(t, m, "g", found{})
}

// TestP82None: there is nothing in the zero Image, not even the empty name, nor in the image beside an error.
func TestP82None(t *testing.T) {
	broken, _, _, _ := Link(mustParse(t, "fn f(){}"), mustParse(t, "fn w(){}"))
	for _, m := range []Image{{}, {Codes: []code.Code{}}, {Libs: 3, Main: 1}, broken} {
		for _, name := range []string{"", "main", "f", "w"} {
			wantFind(t, m, name, found{})
		}
	}
}

// TestP82ByHand: images with a part changed.
func TestP82ByHand(t *testing.T) {
	m := Image{Codes: []code.Code{{Name: "a"}, {Name: ""}, {Name: "b"}, {Name: "a"}, {Name: "b"}, {Name: "\xff {"}}}
	for libs := -1; libs <= 7; libs++ {
		m.Libs = libs
		wantFind(t, m, "a", found{0, 0 < libs, true})
		wantFind(t, m, "", found{1, 1 < libs, true})
		wantFind(t, m, "b", found{2, 2 < libs, true})
		wantFind(t, m, "\xff {", found{5, 5 < libs, true})
		wantFind(t, m, "c", found{})
	}
	m.Libs = math.MinInt
	wantFind(t, m, "a", found{0, false, true})
	m.Libs = math.MaxInt
	wantFind(t, m, "b", found{2, true, true})
	m.Main = -1
	wantFind(t, m, "a", found{0, true, true})
	// What lies behind the list's length isn't found (rule 4).
	m.Codes = m.Codes[:2]
	wantFind(t, m, "b", found{})
}
