package shape

import (
	"testing"

	"lychgate/api"
)

// atEachPlace holds a text against a fault also with other texts ahead of and behind it, which have none of their own.
func atEachPlace(t *testing.T, text string, e api.Errno) {
	t.Helper()
	for _, ahead := range []string{"", " # a remark\n", "fn a() { } fn aa() { }", "type z own; type y cell { x, y } where x < y; type w counted n { n };", "type zl lock l { l }; type zg guard zl;\n\n"} {
		for _, behind := range []string{"", " fn f() { }", " type z1 own;", " type a own { x, x } where y < 1;", " type z2 guard z3; type z2 own;"} {
			wantFault(t, ahead+text+behind, e)
		}
	}
}

func TestP111TypeFaults(t *testing.T) {
	for _, text := range []string{
		"type a own; @type a own;",
		"type a own; fn a() { } @type a cell { v };",
		"type a own; type b own; type c own; @type a own;",
		"type a own; type b own; type c own; @type b own;",
		"type a own; type b own; type c own; @type c own;",
		"type a lock l { l }; type g guard a; @type a guard a;",
		"type a lock l { l }; type g guard a; @type g guard a;",
		"type a counted n { n }; @type a counted n { n };",
	} {
		atEachPlace(t, text, api.ErrTwice)
	}
	for _, text := range []string{
		"@type a own { a, b, c, d, e, f, g, h, i };",
		"@type a cell { a, b, c, d, e, f, g, h, i };",
		"@type a counted a { a, b, c, d, e, f, g, h, i };",
		"@type a lock i { a, b, c, d, e, f, g, h, i };",
		"@type a own { a, b, c, d, e, f, g, h, i[a] };",
		"@type a own { a, b, c, d, e, f, g, h, i, j, k, l, m, n, o, p, q } where a < q;",
		"type l lock l { l }; @type a guard l { a, b, c, d, e, f, g, h, i };",
	} {
		atEachPlace(t, text, api.ErrMany)
	}
	// As many as may be: of these none is a fault.
	for _, text := range []string{
		"type a own { a, b, c, d, e, f, g, h };", "type a own { a, b, c, d, e, f, g, h[a] };", "type a cell { a, b, c, d, e, f, g, h };",
		"type a counted h { a, b, c, d, e, f, g, h };", "type a lock h { a, b, c, d, e, f, g, h };",
		"type a own { a, b, c, d, e, f, g, h } where a < b, a < b, a < b, a < b, a < b, a < b, a < b, a < b, a < b, a < b;",
	} {
		if got, at, e := Types(mustParse(t, text)); e != api.OK || at != 0 || len(got) != 1 || len(got[0].Fields) != api.MaxFields {
			t.Errorf("P11.1: %q: %+v, error %d at %d", text, got, e, at)
		}
	}
}

func TestP111FieldFaults(t *testing.T) {
	for _, text := range []string{
		"type a own { x, @x };",
		"type a own { x, y, z, @x };",
		"type a own { x, y, z, @y, x };",
		"type a own { a, b, c, d, e, f, g, @g };",
		"type a own { a, b, c, d, e, f, g, @a };",
		"type a own { n, d[n], @d };",
		"type a own { n, d[n], @d[n] };",
		"type a own { n, @n[n] };",
		"type a cell { x, @x };",
		"type a counted x { x, y, @x };",
		"type a lock x { y, x, @y };",
		"type l lock l { l }; type a guard l { x, @x };",
	} {
		atEachPlace(t, text, api.ErrTwice)
	}
	for _, text := range []string{
		// An array in a type of another sort than own.
		"type a cell { n, @d[n] };",
		"type a cell { @d[n], n };",
		"type a counted n { n, @d[n] };",
		"type a counted n { v, @d[v], n };",
		"type a lock l { l, @d[l] };",
		"type a lock l { @d[v], v, l };",
		"type l lock l { l }; type a guard l { @d[n], n };",
		"type l lock l { l }; type a guard l { n, @d[n] };",
		"type a cell { @d[n] };",
		// An array whose size is no field, an array, or itself.
		"type a own { @d[n] };",
		"type a own { x, y, @d[n], z };",
		"type a own { n, e[n], @d[e] };",
		"type a own { @d[e], e[n], n };",
		"type a own { @d[d] };",
		"type a own { n, @d[d] };",
		"type a own { n, @d[e], e[d] };",
		"type a own { n, d[n], @f[a] };",
		"type b own { n }; type a own { @d[n] };",
		"type a own { @d[a] };",
		// Of two fields of one name the array names the first one.
		"type a own { @d[n], n[m], n, m };",
	} {
		atEachPlace(t, text, api.ErrField)
	}
	// There the number stands first, and it is the second one that is there twice.
	atEachPlace(t, "type a own { d[n], n, @n[n] };", api.ErrTwice)
}

func TestP111SortFaults(t *testing.T) {
	for _, text := range []string{
		"type a @counted n;",
		"type a @lock l;",
		"type a @counted n { v };",
		"type a @lock l { v, w };",
		"type a @counted a { v };",
		"type a @lock a { v };",
		"type b own { n }; type a @counted n { v };",
		"type b own; type a @lock b { v };",
		"type a @counted n where 1 < 2;",
	} {
		atEachPlace(t, text, api.ErrField)
	}
	for _, text := range []string{
		"type a @guard b;",
		"type a @guard a;",
		"type a @guard b; type b lock l { l };",
		"type b own; type a @guard b;",
		"type b cell { v }; type a @guard b;",
		"type b counted n { n }; type a @guard b;",
		"type l lock l { l }; type b guard l; type a @guard b;",
		"fn b() { } type a @guard b;",
		"type l lock b { b }; type a @guard b;",
		// What else is wrong with a guard comes behind it.
		"type a @guard b { v };",
		"type a @guard b where 1 < 2;",
		"type b own; type a @guard b { v } where v < 2;",
		"type a @guard a { a };",
	} {
		atEachPlace(t, text, api.ErrName)
	}
	for _, text := range []string{
		"type b lock l { l }; type a @guard b { v };",
		"type b lock l { l }; type a @guard b { l, v };",
		"type b lock l { l }; type a @guard b where 1 < 2;",
		"type b lock l { l }; type a @guard b { v } where 1 < v;",
		"type b lock l { l }; type a @guard b { v } where x < y;",
		"type b lock l { l }; type a @guard b where x < y;",
	} {
		atEachPlace(t, text, api.ErrField)
	}
}

// TestP111SortArray: the NAME of counted or lock is that of an array. Arrays stand in types of the sort own alone, so the array is the first fault.
func TestP111SortArray(t *testing.T) {
	atEachPlace(t, "type a counted n { v, @n[v] };", api.ErrField)
	atEachPlace(t, "type a lock l { @l[v], v };", api.ErrField)
}

func TestP111FactFaults(t *testing.T) {
	for _, text := range []string{
		// No such field.
		"type a own where @x < 1;",
		"type a own where @1 <= x;",
		"type a own { v } where @x < v;",
		"type a own { v } where @v == x;",
		"type a own { v } where @v == x + 1;",
		"type a own { v } where @x - 3 == v;",
		"type a own { v } where @x < y;",
		"type a own { v } where @a < v;",
		"type b own { x }; type a own { v } where @x < v;",
		"type a cell { v } where @v < x;",
		"type a counted n { n, v } where @v < x;",
		"type a lock l { l, v } where @x < v;",
		// An array.
		"type a own { n, d[n] } where @d < n;",
		"type a own { n, d[n] } where @n < d;",
		"type a own { d[n], n } where @d < 5;",
		"type a own { d[n], n } where @0 <= d + 1;",
		"type a own { d[n], n, e[n] } where @d == e;",
		// The field that counts or locks.
		"type a counted n { n } where @0 < n;",
		"type a counted n { n, v } where @n < v;",
		"type a counted n { v, n } where @v < n;",
		"type a counted n { v, n } where @n - 1 == n - 1;",
		"type a lock l { l } where @l == 0;",
		"type a lock l { l, v } where @v <= l;",
		"type a lock l { v, l, w } where @l <= w;",
		// Behind facts that may be.
		"type a own { v } where 1 < 2, v < 3, @x < v;",
		"type a own { v } where 1 < 2, v < 3, @v < x, 1 < 2;",
		"type a counted n { v, n } where v < v, @n < v, x < v;",
	} {
		atEachPlace(t, text, api.ErrFact)
	}
	// The fields that no fact may name in one type may be named in another.
	got, at, e := Types(mustParse(t, "type a counted n { n, l }; type b lock l { l, n } where n < 1; type c counted n { n, l } where l < 1; type d own { n, l } where n < l;"))
	if e != api.OK || at != 0 || len(got) != 4 {
		t.Errorf("P11.1: %+v, error %d at %d", got, e, at)
	}
}

// TestP111FirstOfType: of two faults of one type the one is told that the promise names first, wherever they stand.
func TestP111FirstOfType(t *testing.T) {
	for _, c := range []struct {
		text string
		e    api.Errno
	}{
		// ErrTwice of the Type is ahead of all.
		{"type a own; @type a own { a, b, c, d, e, f, g, h, i };", api.ErrTwice},
		{"type a own; @type a own { x, x };", api.ErrTwice},
		{"type a own; @type a cell { d[x] };", api.ErrTwice},
		{"type a own; @type a counted n;", api.ErrTwice},
		{"type a own; @type a guard b;", api.ErrTwice},
		{"type a own; @type a own where x < 1;", api.ErrTwice},
		// Then ErrMany.
		{"@type a own { a, a, a, a, a, a, a, a, a };", api.ErrMany},
		{"@type a own { a[x], b, c, d, e, f, g, h, i };", api.ErrMany},
		{"@type a counted n { a, b, c, d, e, f, g, h, i };", api.ErrMany},
		{"@type a guard x { a, b, c, d, e, f, g, h, i };", api.ErrMany},
		{"@type a own { a, b, c, d, e, f, g, h, i } where x < 1;", api.ErrMany},
		// Then the Fields, one behind the other.
		{"type a own { x, @x, d[y] };", api.ErrTwice},
		{"type a own { x, @d[y], x };", api.ErrField},
		{"type a own { x, @x[y] };", api.ErrTwice},
		{"type a own { x, d[x], @d[y] };", api.ErrTwice},
		{"type a cell { x, @x[x] };", api.ErrTwice},
		{"type a cell { x, @d[x], x };", api.ErrField},
		{"type a counted n { x, @x };", api.ErrTwice},
		{"type a counted n { x, @d[x] };", api.ErrField},
		{"type a lock l { x, @d[l] };", api.ErrField},
		{"type a guard b { x, @x };", api.ErrTwice},
		{"type a guard b { x, @d[x] };", api.ErrField},
		{"type a own { x, @x } where y < 1;", api.ErrTwice},
		{"type a own { @d[x] } where y < 1;", api.ErrField},
		// Then the Sort.
		{"type a @counted n { x } where y < 1;", api.ErrField},
		{"type a @lock l { x } where y < 1;", api.ErrField},
		{"type a @lock l where l < 1;", api.ErrField},
		{"type a @guard b { x } where y < 1;", api.ErrName},
		// Then the Facts, one behind the other.
		{"type a counted n { n } where @x < 1, n < 1;", api.ErrFact},
		{"type a counted n { n } where @n < 1, x < 1;", api.ErrFact},
	} {
		atEachPlace(t, c.text, c.e)
	}
}

// TestP111FirstType: of two types with faults the first one's is told, whatever the promise names first.
func TestP111FirstType(t *testing.T) {
	for _, c := range []struct {
		text string
		e    api.Errno
	}{
		{"type a own where @x < 1; type a own;", api.ErrFact},
		{"type a own where @x < 1; type b own { a, b, c, d, e, f, g, h, i };", api.ErrFact},
		{"type a own where @x < 1; type b own { x, x };", api.ErrFact},
		{"type a @guard b; type b own { x, x }; type b own;", api.ErrName},
		{"type a @counted n; type a own;", api.ErrField},
		{"type a @lock l; type b guard a;", api.ErrField},
		{"type a lock l { l } where @l < 1; type b guard a { v };", api.ErrFact},
		{"type a own { x, @d[y] }; type a own { x, x };", api.ErrField},
		{"type a own { x, @x }; type a own;", api.ErrTwice},
		{"@type a own { a, b, c, d, e, f, g, h, i }; type a own;", api.ErrMany},
		{"type a own; type b own where 1 < 2, @x < 1; type a own;", api.ErrFact},
		{"type a own; @type a own where x < 1; type b guard c;", api.ErrTwice},
		{"type a own; type b @guard a; type c guard b; type a own;", api.ErrName},
	} {
		atEachPlace(t, c.text, c.e)
	}
}
