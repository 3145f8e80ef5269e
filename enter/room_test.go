package enter

import (
	"strconv"
	"strings"
	"testing"

	"lychgate/api"
	"lychgate/heap"
	"lychgate/shape"
	"lychgate/sign"
)

// wantMany: there is no room, and beside the error all is the zero value.
func wantMany(t *testing.T, what string, got Start, e api.Errno) {
	t.Helper()
	if e != api.ErrMany {
		t.Errorf("P14.1: %s: error %d, want %d", what, e, api.ErrMany)
	}
	if got.Heap != nil || len(got.Vars) > 0 || len(got.Blocks) > 0 || len(got.Counts) > 0 {
		t.Errorf("rule 2: %s: beside the error stands %+v", what, got)
	}
}

// wantRoom: there is room, and with it there are so many variables and facts.
func wantRoom(t *testing.T, what string, got Start, e api.Errno, vars, facts int) {
	t.Helper()
	if e != api.OK || got.Heap == nil {
		t.Errorf("P14.1: %s: error %d", what, e)
		return
	}
	if got.Heap.Vars != vars || len(got.Heap.Facts) != facts {
		t.Errorf("P14.1: %s: %d variables and %d facts, want %d and %d", what, got.Heap.Vars, len(got.Heap.Facts), vars, facts)
	}
}

// params: so many parameters of one mode and type. No text has more than MaxParams of them, with which no 96 variables can come up: the signatures of these tests are made by hand.
func params(many int, mode sign.Mode, number int) []sign.Param {
	var list []sign.Param
	for i := range many {
		list = append(list, sign.Param{Name: "p" + strconv.Itoa(i), Mode: mode, Type: number})
	}
	return list
}

// roomTypes: their numbers are w 0, r 1, m 2, g 3, e 4, d 5.
const roomTypes = "type w own { a, b, c, d, e, f, g, h }; type r counted n { x, n }; type m lock l { x, l, y }; type g guard m; type e own; type d own { d[n], e[n], n };"

// TestP141RoomVars: the variables come just to MaxVars, and to one more.
func TestP141RoomVars(t *testing.T) {
	if api.MaxVars != 96 || api.MaxFacts != 768 {
		t.Fatalf("MaxVars is %d, MaxFacts %d", api.MaxVars, api.MaxFacts)
	}
	table, _ := read(t, roomTypes)
	for _, c := range []struct {
		name              string
		last              sign.Param
		its, facts, ahead int
	}{
		{"an int", sign.Param{Mode: sign.Int}, 1, 2, 0},
		{"eight numbers", sign.Param{Mode: sign.Own}, 8, 16, 0},
		{"a counted one", sign.Param{Mode: sign.Ref, Type: 1}, 2, 5, 0},
		{"a lock", sign.Param{Mode: sign.Ref, Type: 2}, 0, 0, 0},
		{"a guard", sign.Param{Mode: sign.Own, Type: 3}, 2, 4, 0},
		{"one without fields", sign.Param{Mode: sign.Own, Type: 4}, 0, 0, 0},
		{"one with arrays", sign.Param{Mode: sign.Mut, Type: 5}, 1, 6, 0},
	} {
		for over := range c.its + 2 {
			ints := api.MaxVars - 1 - c.its + over
			if ints > api.MaxVars-1 {
				continue
			}
			sig := sign.Sig{Params: append(params(ints, sign.Int, 0), c.last)}
			what := strconv.Itoa(ints) + " ints and " + c.name
			got, e := Begin(sig, table)
			if over > 0 {
				wantMany(t, what, got, e)
			} else {
				wantRoom(t, what, got, e, api.MaxVars, 2*ints+c.facts)
			}
			// The other way round it is the ints that there is no room for.
			sig.Params = append([]sign.Param{c.last}, params(ints, sign.Int, 0)...)
			got, e = Begin(sig, table)
			if over > 0 {
				wantMany(t, what+", turned", got, e)
			} else {
				wantRoom(t, what+", turned", got, e, api.MaxVars, 2*ints+c.facts)
			}
		}
	}
	for ints := range 200 {
		got, e := Begin(sign.Sig{Params: params(ints, sign.Int, 0)}, nil)
		if ints > 95 {
			wantMany(t, strconv.Itoa(ints)+" ints", got, e)
		} else {
			wantRoom(t, strconv.Itoa(ints)+" ints", got, e, ints+1, 2*ints)
		}
	}
}

// TestP141RoomBehind: where all variables are there, what asks for none is known as ever.
func TestP141RoomBehind(t *testing.T) {
	table, _ := read(t, roomTypes)
	sig := sign.Sig{Params: append(params(95, sign.Int, 0), sign.Param{Name: "m", Mode: sign.Own, Type: 2}, sign.Param{Name: "e", Mode: sign.Ref, Type: 4})}
	got, e := Begin(sig, table)
	wantRoom(t, "95 ints, a lock and one without fields", got, e, 96, 190)
	if len(got.Heap.Chunks) != 2 || !sameChunk(got.Heap.Chunks[0], block(heap.Locked, 2, 1, null, null, null)) || !sameChunk(got.Heap.Chunks[1], block(heap.Read, 4, -1)) {
		t.Errorf("P14.1: behind 95 ints stand the chunks %+v", got.Heap.Chunks)
	}
}

// factsOf: a type's so many facts, from comparisons that come to one, but of each odd number the first one to two.
func factsOf(many int) string {
	var list []string
	if many%2 == 1 && many > 1 {
		list, many = append(list, "x==x+1"), many-2
	}
	for range many {
		list = append(list, "x<=x+2")
	}
	if len(list) == 0 {
		return ""
	}
	return " where " + strings.Join(list, ",")
}

// TestP141RoomFacts: the facts come just to MaxFacts, and to more: of Fresh's, of a type, of a count and of an array's size.
func TestP141RoomFacts(t *testing.T) {
	for _, c := range []struct {
		name        string
		head, tail  string // of the text, ahead of the facts and behind them
		vars, facts int    // beside the type's
	}{
		{"a type", "type o own { x }", "; fn f(a: &o) { }", 2, 2},
		{"a cell", "type o cell { x, y }", "; fn f(a: own o) { }", 3, 4},
		{"a count", "type o counted n { n, x }", "; fn f(a: &mut o) { }", 3, 5},
		{"a guard", "type m lock l { l, x }", "; type o guard m; fn f(a: &o) { }", 2, 2},
		{"an array", "type o own { x, d[x] }", "; fn f(a: own o) { }", 2, 4},
		{"three arrays", "type o own { e[x], x, d[x], c[x] }", "; fn f(a: &o) { }", 2, 8},
		{"an int ahead", "type o own { x }", "; fn f(i: int, a: &o) { }", 3, 4},
		{"an int behind", "type o own { x }", "; fn f(a: &o, i: int) { }", 3, 4},
		{"another type's numbers behind", "type o own { x }", "; type p cell { x, y }; fn f(a: &o, b: &p) { }", 4, 6},
		{"another type's facts behind", "type o own { x }", "; type p own { x } where x < 1, 2 == x; fn f(a: &o, b: &p) { }", 3, 7},
		{"a count behind", "type o own { x }", "; type p counted n { n }; fn f(a: &o, b: own p) { }", 3, 5},
		{"an array behind", "type o own { x }", "; type p own { d[n], n }; fn f(a: &o, b: own p) { }", 3, 6},
		{"a guard behind", "type o own { x }", "; type m lock l { l, x } where x < 5; type p guard m; fn f(a: &o, b: own p) { }", 3, 5},
		{"a lock behind", "type o own { x }", "; type m lock l { l, x } where x < 5; fn f(a: &o, b: own m) { }", 2, 2},
		{"a type without fields behind", "type o own { x }", "; type p own; fn f(a: &o, b: own p) { }", 2, 2},
	} {
		for over := -3; over <= 5; over++ {
			many := api.MaxFacts - c.facts + over
			got, e := beginOf(t, c.head+factsOf(many)+c.tail)
			what := c.name + " and " + strconv.Itoa(many) + " facts"
			if over > 0 {
				wantMany(t, what, got, e)
			} else {
				wantRoom(t, what, got, e, c.vars, api.MaxFacts+over)
			}
		}
	}
}

// TestP141RoomOfMany: several parameters of one type each bring their facts.
func TestP141RoomOfMany(t *testing.T) {
	for many, most := range map[int]int{1: 766, 2: 382, 3: 254, 4: 190, 6: 126, 8: 94} {
		var list []string
		for i := range many {
			list = append(list, string(rune('a'+i))+": &o")
		}
		tail := "; fn f(" + strings.Join(list, ", ") + ") { }"
		got, e := beginOf(t, "type o own { x }"+factsOf(most)+tail)
		wantRoom(t, strconv.Itoa(many)+" parameters with the most facts", got, e, many+1, many*(most+2))
		got, e = beginOf(t, "type o own { x }"+factsOf(most+1)+tail)
		wantMany(t, strconv.Itoa(many)+" parameters with one fact more", got, e)
	}
}

// TestP141RoomOfLock: a lock that isn't held has no facts, however many its type has.
func TestP141RoomOfLock(t *testing.T) {
	const most = 1300
	got, e := beginOf(t, "type m lock l { x, l }"+factsOf(most)+"; fn f(i: int, a: &m) { }")
	wantRoom(t, "a lock of a type with very many facts", got, e, 2, 2)
	got, e = beginOf(t, "type m lock l { x, l }"+factsOf(most)+"; type g guard m; fn f(i: int, a: &g) { }")
	wantMany(t, "its guard", got, e)
	got, e = beginOf(t, "type m lock l { x, l }"+factsOf(most)+"; type g guard m; fn f(i: int) { }")
	wantRoom(t, "neither of them", got, e, 2, 2)
}

// TestP141RoomAgain: what there was no room for leaves nothing behind.
func TestP141RoomAgain(t *testing.T) {
	table, sigs := read(t, example)
	want, _ := Begin(sigs[0], table)
	many := sign.Sig{Params: params(96, sign.Int, 0)}
	for range 3 {
		got, e := Begin(many, table)
		wantMany(t, "96 ints", got, e)
		got, e = Begin(sigs[0], table)
		wantSame(t, "what follows", got, e, want)
	}
	if got, e := Begin(many, shape.Table{}); e != api.ErrMany {
		t.Errorf("P14.1: 96 ints: error %d, %+v", e, got)
	}
}
