package shape

import (
	"regexp"
	"slices"
	"strconv"
	"strings"
	"testing"

	"lychgate/api"
	"lychgate/diff"
)

// item is a field or a fact as it stands in a text, without its blanks.
type item struct {
	at   int
	text string
}

// written is a type as it stands in a text.
type written struct {
	at            int
	name          string
	sortAt        int
	sort, of      string
	fields, facts []item
	names, sizes  []string // of the fields; the size of a number is empty
}

// account is a second telling of the chapter's words: it reads a text that has no fault of layer 2 by patterns, and knows nothing of trees.
type account []written

var (
	remarkForm = regexp.MustCompile(`#[^\n]*`)
	typeForm   = regexp.MustCompile(`\btype\s+(\w+)\s+(own|cell|(?:counted|lock|guard)\s+(\w+))\s*(?:\{([^}]*)\})?\s*(?:where\b([^;]*))?;`)
	factForm   = regexp.MustCompile(`^([a-z_]\w*)?([+-]?\d+)?(<=|<|==)([a-z_]\w*)?([+-]?\d+)?$`)
	fieldForm  = regexp.MustCompile(`^(\w+)(?:\[(\w+)\])?$`)
)

// itemsOf: what stands between the commas of text[from:to]; none, if the part isn't there.
func itemsOf(text string, from, to int) []item {
	if from < 0 {
		return nil
	}
	var items []item
	for _, part := range strings.Split(text[from:to], ",") {
		blanks := len(part) - len(strings.TrimLeft(part, " \n"))
		items = append(items, item{from + blanks, strings.Join(strings.Fields(part), "")})
		from += len(part) + 1
	}
	return items
}

func newAccount(text string) account {
	text = remarkForm.ReplaceAllStringFunc(text, func(remark string) string { return strings.Repeat(" ", len(remark)) })
	var all account
	for _, m := range typeForm.FindAllStringSubmatchIndex(text, -1) {
		w := written{at: m[0], name: text[m[2]:m[3]], sortAt: m[4], sort: strings.Fields(text[m[4]:m[5]])[0]}
		if m[6] >= 0 {
			w.of = text[m[6]:m[7]]
		}
		w.fields, w.facts = itemsOf(text, m[8], m[9]), itemsOf(text, m[10], m[11])
		for _, f := range w.fields {
			m := fieldForm.FindStringSubmatch(f.text)
			w.names, w.sizes = append(w.names, m[1]), append(w.sizes, m[2])
		}
		all = append(all, w)
	}
	return all
}

// numberOf: the number of the first field of that name, if it is a number; else -1.
func (w written) numberOf(name string) int {
	i := slices.Index(w.names, name)
	if i >= 0 && w.sizes[i] != "" {
		return -1
	}
	return i
}

func (w written) has(sorts ...string) bool { return slices.Contains(sorts, w.sort) }

// told is a fault with its place, and with its turn: the type's number, the part of the promise, the item's number, and which of the item's faults it is.
type told struct {
	turn [4]int
	at   int
	e    api.Errno
}

// faults: all faults, in no order.
func (a account) faults() []told {
	var all []told
	put := func(is bool, at int, e api.Errno, turn ...int) {
		if is {
			all = append(all, told{[4]int(turn), at, e})
		}
	}
	for i, w := range a {
		earlier := func(fits func(written) bool) bool { return slices.ContainsFunc(a[:i], fits) }
		put(earlier(func(other written) bool { return other.name == w.name }), w.at, api.ErrTwice, i, 1, 0, 0)
		put(len(w.fields) > api.MaxFields, w.at, api.ErrMany, i, 1, 0, 1)
		for j, f := range w.fields {
			name, size := w.names[j], w.sizes[j]
			put(slices.Index(w.names, name) < j, f.at, api.ErrTwice, i, 2, j, 0)
			put(size != "" && !w.has("own"), f.at, api.ErrField, i, 2, j, 1)
			put(size != "" && w.numberOf(size) < 0, f.at, api.ErrField, i, 2, j, 1)
		}
		isLock := func(other written) bool { return other.name == w.of && other.has("lock") }
		put(w.has("counted", "lock") && w.numberOf(w.of) < 0, w.sortAt, api.ErrField, i, 3, 0, 0)
		put(w.has("guard") && !earlier(isLock), w.sortAt, api.ErrName, i, 3, 0, 0)
		put(w.has("guard") && len(w.fields)+len(w.facts) > 0, w.sortAt, api.ErrField, i, 3, 0, 1)
		for j, f := range w.facts {
			m := factForm.FindStringSubmatch(f.text)
			for _, name := range []string{m[1], m[4]} {
				put(name != "" && w.numberOf(name) < 0, f.at, api.ErrFact, i, 4, j, 0)
				put(name == w.of && w.has("counted", "lock"), f.at, api.ErrFact, i, 4, j, 0)
			}
		}
	}
	return all
}

// first: the fault whose turn comes first; the zero one, if there is none.
func (a account) first() told {
	var first told
	for i, f := range a.faults() {
		if i == 0 || slices.Compare(f.turn[:], first.turn[:]) < 0 {
			first = f
		}
	}
	return first
}

// factsOf: each comparison is told as one that a left side is at most a right side.
func (w written) factsOf() []diff.Leq {
	var facts []diff.Leq
	side := func(name, number string) (int, int64) {
		n, _ := strconv.ParseInt(number, 10, 64)
		if name == "" {
			return 0, n
		}
		return 1 + w.numberOf(name), n
	}
	for _, f := range w.facts {
		m := factForm.FindStringSubmatch(f.text)
		a, k := side(m[1], m[2])
		b, l := side(m[4], m[5])
		if m[3] == "<" {
			k++
		}
		facts = append(facts, diff.Leq{X: a, Y: b, C: l - k})
		if m[3] == "==" {
			facts = append(facts, diff.Leq{X: b, Y: a, C: k - l})
		}
	}
	return facts
}

// table: the types of a text; none, if it has a fault.
func (a account) table() Table {
	if len(a.faults()) > 0 {
		return nil
	}
	sorts := map[string]Sort{"own": 0, "cell": 1, "counted": 2, "lock": 3, "guard": 4}
	var table Table
	for _, w := range a {
		of := Type{Name: w.name, Sort: sorts[w.sort], Facts: w.factsOf()}
		if w.has("counted", "lock") {
			of.Of = slices.Index(w.names, w.of)
		}
		if w.has("guard") {
			of.Of = slices.IndexFunc(a, func(other written) bool { return other.name == w.of })
		}
		for j, name := range w.names {
			// No field has the empty name of what tells a number's size.
			of.Fields = append(of.Fields, Field{name, slices.Index(w.names, w.sizes[j])})
		}
		table = append(table, of)
	}
	return table
}

// hold holds what Types and Find tell of a text against the account. It tells the fault.
func hold(t *testing.T, text string) told {
	t.Helper()
	table, at, e := Types(mustParse(t, text))
	a := newAccount(text)
	want := a.first()
	if at != want.at || e != want.e {
		t.Fatalf("P11.1: %q: error %d at %d, want %d at %d", text, e, at, want.e, want.at)
	}
	if tell := a.table(); !sameTable(table, tell) {
		t.Fatalf("P11.1: %q:\n got %+v\nwant %+v", text, table, tell)
	}
	for i, w := range a {
		if e != api.OK {
			i = -1
		}
		wantFind(t, table, w.name, i)
		wantFind(t, table, w.name+"?", -1)
	}
	return want
}
