package link

import (
	"fmt"
	"math"
	"reflect"
	"slices"
	"testing"

	"lychgate/api"
	"lychgate/code"
	"lychgate/syntax"
)

const (
	sampleLibs   = "type t own { a } where a < 1; fn f(x: int, y: own t) -> int { z = g(x); if x < 1 { g(2); } return z; } type u lock t; fn g(x: int) { fork w(x, 1); }"
	sampleClient = "fn main() { x = f(1, y); while x < 2 { g(x); fork w(x, x + 1); } } type v own; fn w(a: int, b: int) { g(b); }"
)

// unit: a tree put together of parts.
func unit(parts ...syntax.Node) syntax.Node { return syntax.Node{Kids: parts} }

// wantAnswer holds trees against all that Link tells of them.
func wantAnswer(t *testing.T, libs, client syntax.Node, want Image, wantAt int, wantIs bool, wantE api.Errno) {
	t.Helper()
	m, at, is, e := Link(libs, client)
	if !sameImage(m, want) || at != wantAt || is != wantIs || e != wantE {
		t.Errorf("P8.1: of %v and %v:\n got %v, error %d at %d, %v\nwant %v, error %d at %d, %v", libs, client, m, e, at, is, want, wantE, wantAt, wantIs)
	}
}

// TestP81Parts: trees that are put together of parts of others, so that places don't tell the order, and with any names.
func TestP81Parts(t *testing.T) {
	parts := mustParse(t, "fn f(){}fn g(){h();f(1);}fn main(){g();}type t own;").Kids
	f, g, main, own := parts[0], parts[1], parts[2], parts[3]
	const ofF, ofG, ofH = 0, 8, 15
	if f.At != ofF || g.At != ofG {
		t.Fatalf("the places of %v are others", parts)
	}
	wantAnswer(t, unit(own, f), unit(main, own), Image{}, main.Kids[1].Kids[0].At, true, api.ErrName)
	wantAnswer(t, unit(g, f), unit(main), Image{}, ofH, false, api.ErrName)
	wantAnswer(t, unit(g, f, g), unit(main), Image{}, ofG, false, api.ErrTwice)
	wantAnswer(t, unit(g, f, f), unit(main, g), Image{}, ofF, false, api.ErrTwice)
	wantAnswer(t, unit(g, f), unit(main, f), Image{}, ofF, true, api.ErrTwice)
	wantAnswer(t, unit(main), unit(f), Image{}, main.Kids[1].Kids[0].At, false, api.ErrName)

	reversed := g
	reversed.Kids = slices.Clone(g.Kids)
	body := &reversed.Kids[len(g.Kids)-1]
	body.Kids = slices.Clone(body.Kids)
	slices.Reverse(body.Kids)
	wantAnswer(t, unit(reversed, f), unit(main), Image{}, ofH+len("h();"), false, api.ErrArity)

	named := func(fn syntax.Node, name string) syntax.Node {
		fn.Text = name
		return fn
	}
	h := named(f, "h")
	h.At = math.MinInt
	wantAnswer(t, unit(h, h), unit(), Image{}, math.MinInt, false, api.ErrTwice)
	h.At = math.MaxInt
	wantAnswer(t, unit(h), unit(h), Image{}, math.MaxInt, true, api.ErrTwice)
	for _, name := range []string{"", "\xff {", "main ", "a name that is longer than a text may have it"} {
		odd := named(f, name)
		odd.At = 5
		m, at, is, e := Link(unit(odd), unit(named(f, "main")))
		want := Image{Codes: []code.Code{code.Lower(odd), code.Lower(named(f, "main"))}, Libs: 1, Main: 1}
		if !sameImage(m, want) || at != 0 || is || e != api.OK {
			t.Errorf("P8.1: of a function %q: %v, error %d at %d, %v", name, m, e, at, is)
		}
		wantFind(t, m, name, found{0, true, true})
		wantAnswer(t, unit(odd), unit(named(f, "main"), odd), Image{}, 5, true, api.ErrTwice)
	}
}

// TestP81PartsLong: more functions than a text has room for.
func TestP81PartsLong(t *testing.T) {
	const many = 1 << 15
	fn := mustParse(t, "fn f(){a0();}").Kids[0]
	var libs syntax.Node
	for i := range many {
		fn.Text, fn.At = fmt.Sprintf("a%d", i), i
		libs.Kids = append(libs.Kids, fn)
	}
	client := mustParse(t, "fn main(){a32767();}")
	wantAnswer(t, libs, client, Image{Codes: lowered(libs, client), Libs: many, Main: many}, 0, false, api.OK)
	wantAnswer(t, libs, unit(append(client.Kids, fn)...), Image{}, many-1, true, api.ErrTwice)
}

// TestP81Lists: what lies behind a list's length isn't read, and an empty list may be nil or not (rule 4).
func TestP81Lists(t *testing.T) {
	libs := mustParse(t, "fn f(a:int){}fn f(){}")
	client := mustParse(t, "fn main(){f(1,2);f();}fn main(){}")
	libs.Kids, client.Kids = libs.Kids[:1], client.Kids[:1]
	body := &client.Kids[0].Kids[1]
	body.Kids = body.Kids[:1]
	call := &body.Kids[0].Kids[0]
	call.Kids = call.Kids[:1]
	wantAnswer(t, libs, client, Image{Codes: lowered(libs, client), Libs: 1, Main: 1}, 0, false, api.OK)
	call.Kids = call.Kids[:0]
	wantAnswer(t, libs, client, Image{}, body.Kids[0].At, true, api.ErrArity)
	libs.Kids = libs.Kids[:0]
	wantAnswer(t, libs, client, Image{}, body.Kids[0].At, true, api.ErrName)
	body.Kids = body.Kids[:0]
	wantAnswer(t, libs, client, Image{Codes: lowered(client)}, 0, false, api.OK)
	for _, none := range []syntax.Node{{}, {Kids: []syntax.Node{}}} {
		wantAnswer(t, none, client, Image{Codes: lowered(client)}, 0, false, api.OK)
		wantAnswer(t, libs, none, Image{}, 0, true, api.ErrMain)
		wantAnswer(t, none, none, Image{}, 0, true, api.ErrMain)
	}
}

func copyNode(n syntax.Node) syntax.Node {
	n.Kids = slices.Clone(n.Kids)
	for i, kid := range n.Kids {
		n.Kids[i] = copyNode(kid)
	}
	return n
}

// changedAt: a copy of the tree in which the node of that number, counted from the root on, is changed.
func changedAt(n syntax.Node, number int, change func(*syntax.Node)) syntax.Node {
	out := copyNode(n)
	left := number
	var find func(n *syntax.Node)
	find = func(n *syntax.Node) {
		if left == 0 {
			change(n)
		}
		left--
		for i := 0; i < len(n.Kids) && left >= 0; i++ {
			find(&n.Kids[i])
		}
	}
	find(&out)
	return out
}

// TestP81ByHand: each node of a sample with kids left out, put twice or in another order, and of each other Kind. That the calls end is all that is wanted, and that an error has nothing beside it.
func TestP81ByHand(t *testing.T) {
	libs, client := mustParse(t, sampleLibs), mustParse(t, sampleClient)
	changes := []func(n *syntax.Node){
		func(n *syntax.Node) { n.Kids = nil },
		func(n *syntax.Node) { n.Kids = append(n.Kids, n.Kids...) },
		func(n *syntax.Node) { n.Kids = append(n.Kids, syntax.Node{}) },
		func(n *syntax.Node) { slices.Reverse(n.Kids) },
		func(n *syntax.Node) { n.Text = "" },
		func(n *syntax.Node) { n.Num, n.At, n.Text = math.MinInt64, math.MinInt, "\xff {" },
		func(n *syntax.Node) { n.Num, n.At = math.MaxInt64, math.MaxInt },
		func(n *syntax.Node) { n.Kids = n.Kids[:len(n.Kids)/2] },
		func(n *syntax.Node) { n.Kids = n.Kids[len(n.Kids)/2:] },
	}
	for kind := syntax.Unit - 1; kind <= syntax.Call+1; kind++ {
		changes = append(changes,
			func(n *syntax.Node) { n.Kind = kind },
			func(n *syntax.Node) { n.Kind, n.Kids = kind, nil },
			func(n *syntax.Node) { n.Kids = append([]syntax.Node{{Kind: kind}}, n.Kids...) })
	}
	hold := func(libs, client syntax.Node) {
		m, at, is, e := Link(libs, client)
		if e != api.OK && !sameImage(m, Image{}) || e == api.OK && (at != 0 || is) {
			t.Errorf("P8.1: of %v and %v: %v, error %d at %d, %v", libs, client, m, e, at, is)
		}
	}
	for _, change := range changes {
		for number := range syntax.Size(libs) {
			hold(changedAt(libs, number, change), client)
		}
		for number := range syntax.Size(client) {
			hold(libs, changedAt(client, number, change))
		}
	}
}

func copyImage(m Image) Image {
	m.Codes = slices.Clone(m.Codes)
	for i, c := range m.Codes {
		m.Codes[i].Params, m.Codes[i].List = slices.Clone(c.Params), slices.Clone(c.List)
		for j, instr := range c.List {
			m.Codes[i].List[j].Args = slices.Clone(instr.Args)
		}
	}
	return m
}

// spoil writes over all of a list's memory, also what lies behind its length.
func spoil[T any](list []T, with T) {
	list = list[:cap(list)]
	for i := range list {
		list[i] = with
	}
}

// TestP81Memory: what is handed in is neither changed nor kept, and no list of an answer shares memory with another one (rule 4).
func TestP81Memory(t *testing.T) {
	libs, client := mustParse(t, sampleLibs), mustParse(t, sampleClient)
	wasLibs, wasClient := copyNode(libs), copyNode(client)
	m, _, _, e := Link(libs, client)
	other, _, _, _ := Link(libs, client)
	if e != api.OK || m.Libs != 2 || m.Main != 2 || len(m.Codes) != 4 {
		t.Fatalf("P8.1: the sample is %v, error %d", m, e)
	}
	if !reflect.DeepEqual(libs, wasLibs) || !reflect.DeepEqual(client, wasClient) {
		t.Errorf("rule 4: the trees are %v and %v, were %v and %v", libs, client, wasLibs, wasClient)
	}
	want := copyImage(m)
	same := func(where string) {
		t.Helper()
		if !sameImage(m, want) {
			t.Fatalf("rule 4: %s: %v, want %v", where, m, want)
		}
	}
	var change func(n *syntax.Node)
	change = func(n *syntax.Node) {
		for i := range n.Kids {
			change(&n.Kids[i])
		}
		*n = syntax.Node{Kind: syntax.Call, Text: "?", Num: -7, At: -7}
	}
	change(&libs)
	change(&client)
	same("the image changes with the trees")
	for i := range m.Codes {
		for j := range m.Codes[i].List {
			spoil(m.Codes[i].List[j].Args, code.Term{Name: "?", Num: -1})
			m.Codes[i].List[j].Args, want.Codes[i].List[j].Args = nil, nil
			same("the Args of an instruction share memory with another list")
		}
		spoil(m.Codes[i].Params, "?")
		m.Codes[i].Params, want.Codes[i].Params = nil, nil
		same("the Params of a code share memory with another list")
		spoil(m.Codes[i].List, code.Instr{Op: code.Abort, At: -1, Args: []code.Term{{Name: "?", Num: 1}}})
		m.Codes[i].List, want.Codes[i].List = nil, nil
		same("the List of a code shares memory with another list")
	}
	spoil(m.Codes, code.Code{Name: "?"})
	if again, _, _, _ := Link(wasLibs, wasClient); !sameImage(other, again) {
		t.Errorf("rule 4: two images share memory: %v, want %v", other, again)
	}
}

// TestP82Memory: Find changes nothing of the image.
func TestP82Memory(t *testing.T) {
	m, _, _, _ := Link(mustParse(t, sampleLibs), mustParse(t, sampleClient))
	want := copyImage(m)
	for _, name := range []string{"", "f", "g", "main", "w", "x"} {
		m.Find(name)
	}
	if !sameImage(m, want) {
		t.Errorf("rule 4: the image is %v, was %v", m, want)
	}
}
