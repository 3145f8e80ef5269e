package shape

import (
	"math/rand"
	"slices"
	"strings"
	"testing"

	"lychgate/api"
	"lychgate/show"
	"lychgate/syntax"
)

// drawer writes texts of types; what it draws is the same at each run. It draws such that each fault comes up, and often none.
type drawer struct {
	*rand.Rand
	locks []string // types of the sort lock that were drawn
	count int
}

func (d *drawer) of(choices ...string) string { return choices[d.Intn(len(choices))] }

func (d *drawer) rarely() bool { return d.Intn(50) == 0 }

// oneOf: one of the names, rarely some other one.
func (d *drawer) oneOf(names ...string) string {
	if len(names) == 0 || d.rarely() {
		return d.of("u", "v", "w", "x", "y", "z", "a", "b")
	}
	return d.of(names...)
}

func (d *drawer) blank() string { return d.of(" ", " ", "\n", "  ", " # it < is; type {\n") }

// names: as many as may be, rarely one more, each of them once.
func (d *drawer) names(least int) []string {
	all := []string{"u", "v", "w", "x", "y", "z", "m", "n", "o", "own1", "a", "_"}
	d.Shuffle(len(all), func(i, j int) { all[i], all[j] = all[j], all[i] })
	if d.rarely() {
		return all[:api.MaxFields+1]
	}
	return all[:least+d.Intn(api.MaxFields+1-least)]
}

func (d *drawer) number() string { return d.of("0", "1", "2", "7", "12", "1099511627776", "1048576") }

func (d *drawer) term(names []string) string {
	if len(names) == 0 && !d.rarely() || d.Intn(3) == 0 {
		return d.of("", "-", "- ") + d.number()
	}
	return d.oneOf(names...) + d.of("", "", " + "+d.number(), "-"+d.number(), "+"+d.number())
}

func (d *drawer) facts(names []string) string {
	if d.Intn(3) == 0 {
		return ""
	}
	var facts []string
	for range 1 + d.Intn(4) {
		facts = append(facts, d.term(names)+d.of("", d.blank())+d.of("<", "<=", "==")+d.of("", d.blank())+d.term(names))
	}
	return d.blank() + "where" + d.blank() + strings.Join(facts, ","+d.of("", d.blank()))
}

// fields: with some of the names, but the first one, as arrays, if that may be; and which are numbers.
func (d *drawer) fields(names []string, arrays bool) (text string, numbers []string) {
	if len(names) == 0 {
		return "", nil
	}
	numbers = slices.Clone(names)
	if arrays {
		numbers = numbers[:1+d.Intn(len(names))]
	}
	fields := slices.Clone(names)
	for i, name := range names {
		if !slices.Contains(numbers, name) || d.rarely() && d.rarely() {
			fields[i] = name + d.of("", d.blank()) + "[" + d.oneOf(numbers...) + "]"
		}
	}
	d.Shuffle(len(fields), func(i, j int) { fields[i], fields[j] = fields[j], fields[i] })
	if d.rarely() {
		fields = append(fields, d.of(fields...))
	}
	return d.of("", d.blank()) + "{" + d.blank() + strings.Join(fields, d.of("", d.blank())+",") + d.blank() + "}", numbers
}

func (d *drawer) typeText() string {
	d.count++
	name := "t" + string(rune('a'+d.count))
	if d.rarely() {
		name = d.of("tb", "tc", "td")
	}
	head := "type" + d.blank() + name + d.blank()
	switch sort := d.of("own", "own", "cell", "counted", "lock", "lock", "guard"); sort {
	case "guard":
		if len(d.locks) == 0 && !d.rarely() {
			return head + "own;"
		}
		guard := head + sort + d.blank() + d.of(append(slices.Clone(d.locks), d.oneOf(d.locks...))...)
		if d.Intn(12) == 0 {
			fields, numbers := d.fields(d.names(0), false)
			guard += fields + d.facts(numbers)
		}
		return guard + ";"
	case "counted", "lock":
		fields, numbers := d.fields(d.names(1), d.rarely())
		if sort == "lock" {
			d.locks = append(d.locks, name)
		}
		kept := d.oneOf(numbers...)
		free := slices.DeleteFunc(slices.Clone(numbers), func(name string) bool { return name == kept && !d.rarely() })
		return head + sort + d.blank() + kept + fields + d.facts(free) + ";"
	default:
		fields, numbers := d.fields(d.names(0), sort == "own" || d.rarely())
		return head + sort + fields + d.facts(numbers) + ";"
	}
}

func (d *drawer) fn() string {
	return d.of("fn f() { }", "fn tb(u: &tc) -> own td { if u < 1 { lock u[0]; } return u; }", "fn g(x: int, y: &mut x) { free x; p = new 3; }")
}

func (d *drawer) text() string {
	text := d.of("", d.blank())
	for range d.Intn(6) {
		if d.Intn(3) == 0 {
			text += d.fn() + d.of("", d.blank())
		}
		text += d.typeText() + d.of("", d.blank())
	}
	return text
}

func draw(seed int64) string {
	d := &drawer{Rand: rand.New(rand.NewSource(seed))}
	return d.text()
}

// TestDrawn: drawn texts, each against the account.
func TestDrawn(t *testing.T) {
	type kind struct {
		e          api.Errno
		part, last int
	}
	seen := map[kind]int{}
	for seed := range int64(20000) {
		f := hold(t, draw(seed))
		seen[kind{f.e, f.turn[1], f.turn[3]}]++
	}
	for _, k := range []kind{
		{api.OK, 0, 0}, {api.ErrTwice, 1, 0}, {api.ErrMany, 1, 1}, {api.ErrTwice, 2, 0}, {api.ErrField, 2, 1},
		{api.ErrField, 3, 0}, {api.ErrName, 3, 0}, {api.ErrField, 3, 1}, {api.ErrFact, 4, 0},
	} {
		if seen[k] < 50 {
			t.Errorf("%+v is come to only %d times: not enough to tell", k, seen[k])
		}
	}
	hold(t, sample)
	hold(t, example)
}

// mixed: a tree of parts of drawn trees: each type has the Sort of one type, Fields of others, and Facts of others.
func mixed(t *testing.T, r *rand.Rand) syntax.Node {
	var types, sorts, fields, facts []syntax.Node
	for range 4 {
		d := &drawer{Rand: r}
		for _, n := range mustParse(t, d.text()).Kids {
			if n.Kind != syntax.Type {
				continue
			}
			p := partsOf(n)
			types, sorts = append(types, n), append(sorts, p.sort)
			fields, facts = append(fields, p.fields...), append(facts, p.facts...)
		}
	}
	some := func(of []syntax.Node, most int) []syntax.Node {
		var out []syntax.Node
		for range min(most, len(of)) {
			out = append(out, of[r.Intn(len(of))])
		}
		return out
	}
	out := unit(some(types, r.Intn(5))...)
	for i := range out.Kids {
		if r.Intn(2) == 0 {
			out.Kids[i].Kids = slices.Concat(some(sorts, 1), some(fields, r.Intn(4)), some(facts, r.Intn(3)))
		}
		if r.Intn(3) > 0 {
			out.Kids[i].Text = "t" + string(rune('b'+i))
		}
	}
	return out
}

// judged: the nodes at which a fault may be, in their order.
func judged(n syntax.Node) []syntax.Node {
	var all []syntax.Node
	switch n.Kind {
	case syntax.Type, syntax.Sort, syntax.Field, syntax.Fact:
		all = append(all, n)
	}
	for _, kid := range n.Kids {
		all = append(all, judged(kid)...)
	}
	return all
}

// number gives each such node a place of its own, falling, so that places don't tell the order.
func number(n syntax.Node) syntax.Node {
	next := 0
	var visit func(n syntax.Node) syntax.Node
	visit = func(n syntax.Node) syntax.Node {
		next--
		n.At, n.Kids = next, slices.Clone(n.Kids)
		for i, kid := range n.Kids {
			n.Kids[i] = visit(kid)
		}
		return n
	}
	return visit(n)
}

// TestMixed: a tree that is put together of parts has the types, or the fault, of the tree that its own text has.
func TestMixed(t *testing.T) {
	accepted, refused := 0, 0
	for seed := range int64(8000) {
		libs := number(mixed(t, rand.New(rand.NewSource(seed))))
		text := show.Show(libs)
		f := hold(t, text)
		got, at, e := Types(libs)
		wantAt := 0
		if f.e != api.OK {
			refused++
			node := slices.IndexFunc(judged(mustParse(t, text)), func(n syntax.Node) bool { return n.At == f.at })
			wantAt = judged(libs)[node].At
		} else {
			accepted++
		}
		if e != f.e || at != wantAt || !sameTable(got, newAccount(text).table()) {
			t.Fatalf("P11.1: of a tree as %q has it: %+v, error %d at %d, want %d at %d", text, got, e, at, f.e, wantAt)
		}
	}
	if accepted < 500 || refused < 500 {
		t.Errorf("%d trees have types, %d a fault: not enough to tell", accepted, refused)
	}
}

func FuzzTypes(f *testing.F) {
	f.Add(sample)
	f.Add(example)
	f.Add("type a own { d[n], n } where n < -1; fn f() { } type b counted c { c, v }; type d lock l { l, v } where v - 1 == 7; type e guard d;")
	for seed := range int64(20) {
		f.Add(draw(seed))
	}
	f.Fuzz(func(t *testing.T, text string) {
		if _, _, e := syntax.Parse(text); e == api.OK {
			hold(t, text)
		}
	})
}
