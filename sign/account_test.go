package sign

import (
	"regexp"
	"slices"
	"strings"
	"testing"

	"lychgate/api"
	"lychgate/shape"
)

// written is a mode as it stands in a text: its word or sign, and the type's name, if it has one.
type written struct {
	at         int
	word, name string
}

// writtenParam is a parameter as it stands in a text.
type writtenParam struct {
	at   int
	name string
	mode written
}

// writtenFn is a function as it stands in a text; of a result that there is none the word is empty.
type writtenFn struct {
	at     int
	name   string
	params []writtenParam
	result written
}

// account is a second telling of the chapter's words: it reads a text that has no fault of layer 2 by patterns, and knows nothing of trees.
type account struct {
	fns   []writtenFn
	table shape.Table
}

var (
	remarkForm = regexp.MustCompile(`#[^\n]*`)
	fnForm     = regexp.MustCompile(`\bfn\s+(\w+)\s*\(([^)]*)\)\s*(?:->\s*(int\b|own\s+\w+)\s*)?\{`)
	paramForm  = regexp.MustCompile(`(\w+)\s*:\s*([^,]*)`)
	modeForm   = regexp.MustCompile(`^(int|own|&)\s*(?:\b(mut)\s+)?(\w*)\s*$`)
)

// modeIn: the mode that is text[from:to].
func modeIn(text string, from, to int) written {
	m := modeForm.FindStringSubmatch(text[from:to])
	return written{from, m[1] + m[2], m[3]}
}

func newAccount(text string, table shape.Table) account {
	text = remarkForm.ReplaceAllStringFunc(text, func(remark string) string { return strings.Repeat(" ", len(remark)) })
	a := account{table: table}
	for _, m := range fnForm.FindAllStringSubmatchIndex(text, -1) {
		fn := writtenFn{at: m[0], name: text[m[2]:m[3]]}
		begin, params := m[4], text[m[4]:m[5]]
		for _, p := range paramForm.FindAllStringSubmatchIndex(params, -1) {
			fn.params = append(fn.params, writtenParam{begin + p[0], params[p[2]:p[3]], modeIn(text, begin+p[4], begin+p[5])})
		}
		if m[6] >= 0 {
			fn.result = modeIn(text, m[6], m[7])
		}
		a.fns = append(a.fns, fn)
	}
	return a
}

// number: that of the type which a mode names; 0, if it names none, and -1, if it isn't there.
func (a account) number(m written) int {
	if m.name == "" {
		return 0
	}
	return a.table.Find(m.name)
}

// single: does the mode name a type of which there may be one parameter alone?
func (a account) single(m written) bool {
	number := a.number(m)
	return m.name != "" && number >= 0 && a.table[number].Sort != shape.Own
}

// told is a fault with its place, and with its turn: the function's number, the part of the promise, the parameter's number, and which of its faults it is.
type told struct {
	turn [4]int
	at   int
	e    api.Errno
}

// faults: all faults, in no order.
func (a account) faults() []told {
	var all []told
	put := func(is bool, at int, e api.Errno, turn ...int) {
		if is {
			all = append(all, told{[4]int(turn), at, e})
		}
	}
	for i, fn := range a.fns {
		put(a.number(fn.result) < 0, fn.result.at, api.ErrName, i, 3, 0, 0)
		for j, p := range fn.params {
			for _, other := range fn.params[:j] {
				put(other.name == p.name, p.at, api.ErrTwice, i, 2, j, 1)
				put(a.single(p.mode) && other.mode.name == p.mode.name, p.mode.at, api.ErrParam, i, 2, j, 3)
			}
			put(a.number(p.mode) < 0, p.mode.at, api.ErrName, i, 2, j, 2)
		}
		put(len(fn.params) > api.MaxParams, fn.at, api.ErrMany, i, 1, 0, 0)
	}
	return all
}

// first: the fault whose turn comes first; the zero one, if there is none.
func (a account) first() told {
	var first told
	for i, f := range a.faults() {
		if i == 0 || slices.Compare(f.turn[:], first.turn[:]) < 0 {
			first = f
		}
	}
	return first
}

func (a account) handed(name string, m written) Param {
	modes := map[string]Mode{"": 0, "int": 1, "own": 2, "&": 3, "&mut": 4}
	return Param{name, modes[m.word], a.number(m)}
}

// sigs: what the functions take and give; none, if the text has a fault.
func (a account) sigs() []Sig {
	if len(a.faults()) > 0 {
		return nil
	}
	var sigs []Sig
	for _, fn := range a.fns {
		s := Sig{Name: fn.name, Ret: a.handed("", fn.result)}
		for _, p := range fn.params {
			s.Params = append(s.Params, a.handed(p.name, p.mode))
		}
		sigs = append(sigs, s)
	}
	return sigs
}

// hold holds what Sigs tells of a text over a table against the account. It tells the fault.
func hold(t *testing.T, text string, table shape.Table) told {
	t.Helper()
	sigs, at, e := Sigs(mustParse(t, text), table)
	a := newAccount(text, table)
	want := a.first()
	if at != want.at || e != want.e {
		t.Fatalf("P12.1: %q over %+v: error %d at %d, want %d at %d", text, table, e, at, want.e, want.at)
	}
	if tell := a.sigs(); !sameSigs(sigs, tell) {
		t.Fatalf("P12.1: %q over %+v:\n got %+v\nwant %+v", text, table, sigs, tell)
	}
	return want
}
