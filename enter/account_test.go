package enter

import (
	"slices"
	"strconv"
	"strings"
	"testing"

	"lychgate/api"
	"lychgate/diff"
	"lychgate/heap"
	"lychgate/shape"
	"lychgate/sign"
)

// columns are the chapter's table: of each sort the origins by Own, Ref and Mut.
const columns = `
| own | Taken | Read | Lent |
| cell | Taken | Shared | Shared |
| counted | Count | Count | Count |
| lock | Locked | Locked | Locked |
| guard | Locked, Held | Locked, Held | Locked, Held |`

// originWords: the origins by their numbers.
const originWords = "Fresh Taken Lent Read Shared Count Locked Inner ReadInner"

// named is a fact of two variables by their names.
type named struct {
	x, y string
	c    int64
}

// told is a chunk with its name; what stands in its cells, and its size, are the names of variables or of chunks.
type told struct {
	name  string
	chunk heap.Chunk
	cells []string
	size  string
}

// account is a second telling of the chapter's words: it gives all things names, tells what is said of each, and numbers them when all is told.
type account struct {
	table     shape.Table
	variables []string
	facts     []named
	chunks    []told
	vars      [][2]string // each parameter's name, and that of its value
	counts    []string
}

func newAccount(s sign.Sig, table shape.Table) *account {
	a := &account{table: table, variables: []string{""}}
	for i, p := range s.Params {
		name := strconv.Itoa(i)
		count := "none"
		if p.Mode == sign.Int {
			a.variable(name)
		} else {
			count = a.block(name, p)
		}
		a.vars = append(a.vars, [2]string{p.Name, name})
		a.counts = append(a.counts, count)
	}
	return a
}

// variable: one more, of which Fresh's facts hold.
func (a *account) variable(name string) {
	a.variables = append(a.variables, name)
	a.facts = append(a.facts, named{name, "", 1 << 40}, named{"", name, 1 << 40})
}

// isNumber: is the field none whose size another one tells?
func isNumber(f shape.Field) bool { return f.Size < 0 }

// words: the origin by the chapter's table, and whether it is held.
func words(p sign.Param, sort shape.Sort) (origin heap.Origin, isHeld bool) {
	row := strings.Split(strings.Split(columns, "\n")[1+int(sort)], "|")
	word, rest, _ := strings.Cut(strings.TrimSpace(row[2+int(p.Mode-sign.Own)]), ", ")
	return heap.Origin(slices.Index(strings.Fields(originWords), word)), rest == "Held"
}

// block: the chunk of that name, and its arrays; the name of its count.
func (a *account) block(name string, p sign.Param) (count string) {
	number, of := p.Type, a.table[p.Type]
	sort := of.Sort
	if sort == shape.Guard {
		number, of = of.Of, a.table[of.Of]
	}
	at := -1
	if sort != shape.Own && sort != shape.Cell {
		at = of.Of
	}
	origin, isHeld := words(p, sort)
	c := told{name: name, chunk: heap.Chunk{Origin: origin, Type: number, At: at, Live: true, Held: isHeld}}
	cell := func(field int) string { return name + "." + strconv.Itoa(field) }
	known := sort != shape.Lock
	for i, f := range of.Fields {
		isKept := isHeld && i == at
		if known && !isKept {
			c.cells = append(c.cells, cell(i))
		} else {
			c.cells = append(c.cells, "none")
		}
		if known && !isKept && isNumber(f) {
			a.variable(cell(i))
		}
	}
	a.chunks = append(a.chunks, c)
	if !known {
		return "none"
	}
	for _, f := range of.Facts {
		ends := []string{"", ""}
		for i, variable := range []int{f.X, f.Y} {
			if variable > 0 {
				ends[i] = cell(variable - 1)
			}
		}
		a.facts = append(a.facts, named{ends[0], ends[1], f.C})
	}
	count = "none"
	if sort == shape.Counted {
		count = cell(at)
		a.facts = append(a.facts, named{"", count, -1})
	}
	for i, f := range of.Fields {
		if !isNumber(f) {
			a.array(cell(i), cell(f.Size), origin == heap.Read)
		}
	}
	return count
}

func (a *account) array(name, size string, isRead bool) {
	origin := map[bool]heap.Origin{false: heap.Inner, true: heap.ReadInner}[isRead]
	a.chunks = append(a.chunks, told{name: name, chunk: array(origin, null), size: size})
	a.facts = append(a.facts, named{"", size, 0}, named{size, "", 256})
}

// isFull: is more asked than there is room for? What is asked only grows, so that it is enough to look at the whole.
func (a *account) isFull() bool { return len(a.variables) > 96 || len(a.facts) > 768 }

// value: what has that name.
func (a *account) value(name string) heap.Sym {
	if i := slices.Index(a.variables, name); i > 0 {
		return v(i)
	}
	if i := slices.IndexFunc(a.chunks, func(c told) bool { return c.name == name }); i >= 0 {
		return ptr(i)
	}
	return null
}

// start: all by its number.
func (a *account) start() Start {
	s := Start{Heap: &heap.Heap{Vars: len(a.variables)}}
	for _, f := range a.facts {
		s.Heap.Facts = append(s.Heap.Facts, diff.Leq{X: slices.Index(a.variables, f.x), Y: slices.Index(a.variables, f.y), C: f.c})
	}
	for _, c := range a.chunks {
		for _, name := range c.cells {
			c.chunk.Cells = append(c.chunk.Cells, a.value(name))
		}
		c.chunk.Size = a.value(c.size)
		s.Heap.Chunks = append(s.Heap.Chunks, c.chunk)
	}
	for i, name := range a.vars {
		at := slices.IndexFunc(a.chunks, func(c told) bool { return c.name == name[1] })
		s.Vars = append(s.Vars, Var{name[0], a.value(name[1])})
		s.Blocks = append(s.Blocks, at)
		s.Counts = append(s.Counts, a.value(a.counts[i]))
	}
	return s
}

// hold holds what Begin answers of a signature against the account.
func hold(t *testing.T, s sign.Sig, table shape.Table) *account {
	t.Helper()
	a := newAccount(s, table)
	got, e := Begin(s, table)
	if a.isFull() {
		if e != api.ErrMany || !same(got, Start{}) {
			t.Fatalf("P14.1: %+v over %+v: error %d, %+v, want error %d, as there are %d variables and %d facts", s, table, e, got, api.ErrMany, len(a.variables), len(a.facts))
		}
		return a
	}
	if want := a.start(); e != api.OK || !same(got, want) {
		t.Fatalf("P14.1: %+v over %+v: error %d,\n got %+v of\n     %+v\nwant %+v of\n     %+v", s, table, e, got, got.Heap, want, want.Heap)
	}
	return a
}
