package shape

import (
	"math"
	"math/big"
	"slices"
	"testing"

	"lychgate/diff"
)

func wantFacts(t *testing.T, cmp string, a, b int, k, l int64, want ...diff.Leq) {
	t.Helper()
	if got := Facts(cmp, a, b, k, l); !slices.Equal(got, want) {
		t.Errorf("P11.2: of %q, %d + %d and %d + %d: %v, want %v", cmp, a, k, b, l, got, want)
	}
}

func TestP112Facts(t *testing.T) {
	wantFacts(t, "<=", 1, 2, 3, 5, diff.Leq{X: 1, Y: 2, C: 2})
	wantFacts(t, "<", 1, 2, 3, 5, diff.Leq{X: 1, Y: 2, C: 1})
	wantFacts(t, "==", 1, 2, 3, 5, diff.Leq{X: 1, Y: 2, C: 2}, diff.Leq{X: 2, Y: 1, C: -2})
	wantFacts(t, "<=", 2, 1, 5, 3, diff.Leq{X: 2, Y: 1, C: -2})
	wantFacts(t, "<", 0, 0, 0, 0, diff.Leq{C: -1})
	wantFacts(t, "==", 7, 7, 0, 0, diff.Leq{X: 7, Y: 7}, diff.Leq{X: 7, Y: 7})
	// The numbers wrap round.
	wantFacts(t, "<=", 0, 1, 1, math.MinInt64, diff.Leq{X: 0, Y: 1, C: math.MaxInt64})
	wantFacts(t, "<", 0, 1, 0, math.MinInt64, diff.Leq{X: 0, Y: 1, C: math.MaxInt64})
	wantFacts(t, "<", 0, 1, math.MinInt64, math.MaxInt64, diff.Leq{X: 0, Y: 1, C: -2})
	wantFacts(t, "==", 0, 1, math.MinInt64, 0, diff.Leq{X: 0, Y: 1, C: math.MinInt64}, diff.Leq{X: 1, Y: 0, C: math.MinInt64})
	wantFacts(t, "==", math.MinInt, math.MaxInt, math.MaxInt64, -1, diff.Leq{X: math.MinInt, Y: math.MaxInt, C: math.MinInt64}, diff.Leq{X: math.MaxInt, Y: math.MinInt, C: math.MinInt64})
}

// less: a - b - c, wrapped round to 64 bits with a sign.
func less(a, b, c int64) int64 {
	sum := new(big.Int).Sub(big.NewInt(a), big.NewInt(b))
	sum.Sub(sum, big.NewInt(c))
	sum.Mod(sum, new(big.Int).Lsh(big.NewInt(1), 64))
	return int64(sum.Uint64())
}

// TestP112FactsAll: any variables and numbers, the least and the greatest too.
func TestP112FactsAll(t *testing.T) {
	variables := []int{0, 1, 2, 95, 96, -1, 1 << 20, math.MinInt, math.MaxInt}
	numbers := []int64{0, 1, -1, 2, 7, -7, 1 << 40, -1 << 40, 1 << 43, math.MinInt64, math.MinInt64 + 1, math.MaxInt64, math.MaxInt64 - 1}
	for _, a := range variables {
		for _, b := range variables {
			for _, k := range numbers {
				for _, l := range numbers {
					wantFacts(t, "<", a, b, k, l, diff.Leq{X: a, Y: b, C: less(l, k, 1)})
					wantFacts(t, "<=", a, b, k, l, diff.Leq{X: a, Y: b, C: less(l, k, 0)})
					wantFacts(t, "==", a, b, k, l, diff.Leq{X: a, Y: b, C: less(l, k, 0)}, diff.Leq{X: b, Y: a, C: less(k, l, 0)})
					wantFacts(t, "!=", a, b, k, l)
				}
			}
		}
	}
}

// TestP112FactsMean: the facts hold of whole numbers just where the comparison does.
func TestP112FactsMean(t *testing.T) {
	compare := map[string]func(x, y int64) bool{
		"<":  func(x, y int64) bool { return x < y },
		"<=": func(x, y int64) bool { return x <= y },
		"==": func(x, y int64) bool { return x == y },
	}
	const far = 4
	for cmp, holds := range compare {
		for k := int64(-far); k <= far; k++ {
			for l := int64(-far); l <= far; l++ {
				facts := Facts(cmp, 0, 1, k, l)
				for x := int64(-far); x <= far; x++ {
					for y := int64(-far); y <= far; y++ {
						numbers := []int64{x, y}
						fails := slices.ContainsFunc(facts, func(f diff.Leq) bool { return numbers[f.X]-numbers[f.Y] > f.C })
						if fails == holds(x+k, y+l) {
							t.Fatalf("P11.2: %d + %d %s %d + %d comes to %v", x, k, cmp, y, l, facts)
						}
					}
				}
			}
		}
	}
}

func TestP112FactsOfNoComparison(t *testing.T) {
	for _, cmp := range []string{"", "=", "===", ">", ">=", "!=", "!", "=<", "<<", "<==", "<=\x00", " <", "< ", "<=\n", "\xff", "\x00", "x", "own", "->", "＜"} {
		wantFacts(t, cmp, 1, 2, 3, 4)
		wantFacts(t, cmp, 0, 0, 0, 0)
		wantFacts(t, cmp, math.MinInt, math.MaxInt, math.MinInt64, math.MaxInt64)
	}
}

// TestP112FactsMemory: what is answered is new memory (rule 4).
func TestP112FactsMemory(t *testing.T) {
	for _, cmp := range []string{"<", "<=", "=="} {
		first, second := Facts(cmp, 1, 2, 3, 4), Facts(cmp, 1, 2, 3, 4)
		want := slices.Clone(second)
		spoil(first, diff.Leq{X: -7, Y: -7, C: -7})
		if !slices.Equal(second, want) {
			t.Errorf("rule 4: two answers of %q share memory", cmp)
		}
		wantFacts(t, cmp, 1, 2, 3, 4, want...)
	}
}

func wantFind(t *testing.T, table Table, name string, want int) {
	t.Helper()
	if got := table.Find(name); got != want {
		t.Errorf("P11.2: %q of %+v is %d, want %d", name, table, got, want)
	}
}

func TestP112Find(t *testing.T) {
	table, _, _ := Types(mustParse(t, "fn f() { } type vec own { len, cap }; type a cell { v }; fn g() { } type m lock l { l }; type g guard m;"))
	for name, want := range map[string]int{
		"vec": 0, "a": 1, "m": 2, "g": 3,
		"": -1, "f": -1, "len": -1, "cap": -1, "v": -1, "l": -1, "ve": -1, "vec1": -1, "Vec": -1, "vec ": -1, " vec": -1, "own": -1, "\xff": -1, "vec\x00": -1,
	} {
		wantFind(t, table, name, want)
	}
}

// TestP112FindNone: an empty table has no type, not even one of the empty name, nor has the one beside an error.
func TestP112FindNone(t *testing.T) {
	refused, _, _ := Types(mustParse(t, "type a own; type b own; type a own;"))
	for _, table := range []Table{nil, {}, refused, Table{{Name: "a"}, {Name: ""}}[:0]} {
		for _, name := range []string{"", "a", "b", "x", "own"} {
			wantFind(t, table, name, -1)
		}
	}
}

// TestP112FindFirst: of tables by hand the first type of that name, whatever else it is.
func TestP112FindFirst(t *testing.T) {
	table := Table{{Name: "a"}, {Name: "b", Sort: Guard, Of: 9}, {Name: ""}, {Name: "a", Sort: Lock}, {Name: "\xff {"}, {Name: "b"}, {Name: "", Sort: Sort(-1)}, {Name: "c", Fields: numbers("d")}}
	kept := slices.Clone(table)
	for name, want := range map[string]int{"a": 0, "b": 1, "": 2, "\xff {": 4, "c": 7, "d": -1, "\xff": -1, "A": -1} {
		wantFind(t, table, name, want)
	}
	// What lies behind the list's length isn't found (rule 4).
	wantFind(t, table[:7], "c", -1)
	wantFind(t, table[3:], "b", 2)
	if !sameTable(table, kept) {
		t.Errorf("rule 4: the table is %+v, was %+v", table, kept)
	}
}
