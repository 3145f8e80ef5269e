package enter

import (
	"math/rand"
	"slices"
	"strconv"
	"strings"
	"testing"

	"lychgate/api"
	"lychgate/shape"
	"lychgate/sign"
	"lychgate/syntax"
)

// drawer writes texts of types and functions; what it draws is the same at each run.
type drawer struct{ *rand.Rand }

func draw(seed int64) drawer { return drawer{rand.New(rand.NewSource(seed))} }

func (d drawer) of(choices ...string) string { return choices[d.Intn(len(choices))] }

func (d drawer) term(names []string) string {
	number := strconv.Itoa(d.Intn(9))
	if len(names) == 0 || d.Intn(3) == 0 {
		return d.of("", "-") + number
	}
	return d.of(names...) + d.of("", "", " + "+number, " - "+number, " + 1099511627776")
}

// where: facts of these fields. Of some types there are so many that they fill a heap, or nearly.
func (d drawer) where(names []string) string {
	many := d.Intn(4)
	switch d.Intn(12) {
	case 0:
		many = 40 + d.Intn(80)
	case 1:
		many = 160 + d.Intn(40)
	}
	var facts []string
	for range many {
		facts = append(facts, d.term(names)+d.of(" < ", " <= ", " == ")+d.term(names))
	}
	if len(facts) == 0 {
		return ""
	}
	return " where " + strings.Join(facts, ", ")
}

// names: those of so many fields, in some order.
func (d drawer) names(many int) []string {
	names := []string{"a", "b", "c", "d", "e", "f", "g", "h"}
	d.Shuffle(len(names), func(i, j int) { names[i], names[j] = names[j], names[i] })
	return names[:many]
}

// sortText: a type of the name with one of the sorts but guard; the fields of an own one are mostly arrays in some types.
func (d drawer) sortText(name, sort string) string {
	fields := d.names(d.Intn(api.MaxFields + 1))
	if len(fields) == 0 && (sort == "counted" || sort == "lock") {
		fields = d.names(1)
	}
	head := "type " + name + " " + sort
	numbers := slices.Clone(fields)
	switch {
	case sort == "counted" || sort == "lock":
		kept := d.of(fields...)
		head += " " + kept
		numbers = slices.DeleteFunc(numbers, func(name string) bool { return name == kept })
	case sort == "own" && len(fields) > 1:
		numbers = numbers[:1+d.Intn(len(numbers))]
		for i, name := range fields[len(numbers):] {
			fields[len(numbers)+i] = name + "[" + d.of(numbers...) + "]"
		}
		d.Shuffle(len(fields), func(i, j int) { fields[i], fields[j] = fields[j], fields[i] })
	}
	if len(fields) > 0 {
		head += " { " + strings.Join(fields, ", ") + " }"
	}
	return head + d.where(numbers) + ";\n"
}

// typeNames: those of own types, and of others, of each of which a function may have one parameter.
func (d drawer) types() (text string, own, others []string) {
	var locks []string
	for i := range 1 + d.Intn(9) {
		name := "t" + strconv.Itoa(i)
		sort := d.of("own", "own", "cell", "counted", "lock")
		if len(locks) > 0 && d.Intn(3) == 0 {
			text += "type " + name + " guard " + d.of(locks...) + ";\n"
			others = append(others, name)
			continue
		}
		text += d.sortText(name, sort)
		switch sort {
		case "own":
			own = append(own, name)
		case "lock":
			locks = append(locks, name)
			fallthrough
		default:
			others = append(others, name)
		}
	}
	return text, own, others
}

// fn: a function with up to MaxParams parameters.
func (d drawer) fn(own, others []string) string {
	free := slices.Clone(others)
	var params []string
	for i := range d.Intn(api.MaxParams + 1) {
		param := "p" + strconv.Itoa(i) + ": "
		mode := d.of("own ", "&", "&mut ")
		switch {
		case len(free) > 0 && d.Intn(2) == 0:
			which := d.Intn(len(free))
			param += mode + free[which]
			free = slices.Delete(free, which, which+1)
		case len(own) > 0 && d.Intn(3) > 0:
			param += mode + d.of(own...)
		default:
			param += "int"
		}
		params = append(params, param)
	}
	return "fn f(" + strings.Join(params, ", ") + ") " + d.of("", "-> int ") + "{ }\n"
}

func (d drawer) text() string {
	text, own, others := d.types()
	for range 1 + d.Intn(3) {
		text += d.fn(own, others)
	}
	return text
}

// byHand: a signature as no text has it, over a table: of more parameters than MaxParams, so many that the variables run out, and with any types.
func (d drawer) byHand(table shape.Table) sign.Sig {
	var s sign.Sig
	few := d.Intn(2) == 0
	for i := range d.Intn(130) {
		p := sign.Param{Name: "p" + strconv.Itoa(i), Mode: sign.Int}
		if len(table) > 0 && (!few || d.Intn(10) == 0) {
			p.Mode, p.Type = sign.Own+sign.Mode(d.Intn(3)), d.Intn(len(table))
		}
		s.Params = append(s.Params, p)
	}
	if d.Intn(2) == 0 {
		d.topUp(&s, table)
	}
	return s
}

// topUp makes a signature just as long as the heap's room, or a little shorter or longer: of the parameters that it has go those that there is no room for, or nearly none, and ints come.
func (d drawer) topUp(s *sign.Sig, table shape.Table) {
	mostVars, mostFacts := 94+d.Intn(4), 765+d.Intn(6)
	long := s.Params
	s.Params = nil
	vars, facts := 1, 0
	for _, p := range long {
		alone := newAccount(sign.Sig{Params: []sign.Param{p}}, table)
		itsVars, itsFacts := len(alone.variables)-1, len(alone.facts)
		if p.Mode != sign.Int && vars+itsVars < mostVars-4 && facts+itsFacts <= mostFacts {
			s.Params = append(s.Params, p)
			vars, facts = vars+itsVars, facts+itsFacts
		}
	}
	for vars <= mostVars && facts < mostFacts-1 {
		at := d.Intn(len(s.Params) + 1)
		s.Params = slices.Insert(s.Params, at, sign.Param{Name: "i" + strconv.Itoa(vars), Mode: sign.Int})
		vars, facts = vars+1, facts+2
	}
}

// seen counts what the drawn ones come to.
type seen struct {
	begun, full              int
	mostVars, mostFacts      int // how many come just to a limit
	overVars, overFacts      int // and how many to one or two more
	sorts                    [5][5]int
	arrays, counts, anyFacts int
}

func (s *seen) note(a *account, sig sign.Sig) {
	vars, facts := len(a.variables), len(a.facts)
	if a.isFull() {
		s.full++
		if vars == 97 && facts <= 768 {
			s.overVars++
		}
		if vars <= 96 && facts <= 770 {
			s.overFacts++
		}
		return
	}
	s.begun++
	if vars == 96 {
		s.mostVars++
	}
	if facts >= 767 {
		s.mostFacts++
	}
	for _, p := range sig.Params {
		if p.Mode != sign.Int {
			of := a.table[p.Type]
			s.sorts[of.Sort][p.Mode]++
			s.anyFacts += min(1, len(of.Facts))
		}
	}
	for i, c := range a.chunks {
		if c.chunk.Array {
			s.arrays++
		}
		if i < len(a.counts) && a.counts[i] != "none" {
			s.counts++
		}
	}
}

// TestDrawn: drawn texts, and signatures by hand over their types, each against the account.
func TestDrawn(t *testing.T) {
	var texts, hands seen
	for seed := range int64(4000) {
		d := draw(seed)
		table, sigs := read(t, d.text())
		for _, s := range sigs {
			texts.note(hold(t, s, table), s)
		}
		s := d.byHand(table)
		hands.note(hold(t, s, table), s)
	}
	for name, many := range map[string]int{
		"begun": texts.begun / 10, "full": texts.full, "arrays": texts.arrays, "counts": texts.counts, "with facts": texts.anyFacts,
		"by hand begun": hands.begun, "by hand full": hands.full,
		"with the most variables": hands.mostVars, "with one variable more": hands.overVars,
		"with the most facts": texts.mostFacts + hands.mostFacts, "with one or two facts more": texts.overFacts + hands.overFacts,
	} {
		if many < 50 {
			t.Errorf("%s: only %d: not enough to tell", name, many)
		}
	}
	for sort, modes := range texts.sorts {
		for _, many := range modes[sign.Own:] {
			if many < 50 {
				t.Errorf("the sort %d has the modes %v: not enough to tell", sort, modes)
			}
		}
	}
}

// TestDrawnTogether: signatures and tables that are put together of parts of several texts.
func TestDrawnTogether(t *testing.T) {
	for seed := range int64(2000) {
		d := draw(seed)
		table, sigs := read(t, d.text())
		_, other := read(t, d.text())
		var s sign.Sig
		for _, of := range append(sigs, other...) {
			for _, p := range of.Params {
				if p.Type < len(table) {
					s.Params = append(s.Params, p)
				}
			}
		}
		hold(t, s, table)
	}
}

// TestByTheAccount: the texts of the other tests too.
func TestByTheAccount(t *testing.T) {
	for _, text := range []string{example, all, types + "fn f() { } fn g(d: own m, j: int, c: &g, b: &mut r) { } fn h(a: own o, b: &o, c: &mut o) -> own o { }"} {
		table, sigs := read(t, text)
		for _, s := range sigs {
			hold(t, s, table)
		}
	}
}

func FuzzBegin(f *testing.F) {
	f.Add(example, int64(0))
	f.Add(all, int64(1))
	f.Add("type m lock l { x, l } where x == 3; type g guard m; fn f(a: own g, b: &m) { }", int64(2))
	for seed := range int64(20) {
		f.Add(draw(seed).text(), seed)
	}
	f.Fuzz(func(t *testing.T, text string, seed int64) {
		n, _, e := syntax.Parse(text)
		if e != api.OK {
			return
		}
		table, _, e := shape.Types(n)
		if e != api.OK {
			return
		}
		hold(t, draw(seed).byHand(table), table)
		sigs, _, e := sign.Sigs(n, table)
		if e != api.OK {
			return
		}
		for _, s := range sigs {
			hold(t, s, table)
		}
	})
}
