package syntax

import (
	"strings"
	"testing"

	"lychgate/api"
	"lychgate/lex"
)

// chapterGrammar is the chapter's grammar, but for the remarks beside some lines: the program is held against a reader that knows nothing but this text.
const chapterGrammar = `
    unit  = { type | fn }
    type  = "type" NAME sort [ "{" field { "," field } "}" ] [ "where" fact { "," fact } ] ";"
    sort  = "own" | "cell" | "counted" NAME | "lock" NAME | "guard" NAME
    field = NAME [ "[" NAME "]" ]
    fact  = term cmp term
    cmp   = "<" | "<=" | "=="
    term  = NUM | "-" NUM | NAME [ ("+" | "-") NUM ]
    fn    = "fn" NAME "(" [ param { "," param } ] ")" [ "->" ("int" | "own" NAME) ] block
    param = NAME ":" mode
    mode  = "int" | "own" NAME | "&" [ "mut" ] NAME
    block = "{" { stmt } "}"
    stmt  = NAME "=" expr ";"
          | NAME "[" term "]" "=" term ";"
          | NAME "(" [ term { "," term } ] ")" ";"
          | "free" NAME ";"
          | "lock" NAME "[" NUM "]" ";"
          | "unlock" NAME "[" NUM "]" ";"
          | "if" term cmp term block [ "else" block ]
          | "while" term cmp term block
          | "return" [ term ] ";" | "abort" ";"
          | "fork" NAME "(" [ term { "," term } ] ")" ";"
    expr  = term | NAME "+" NAME | NAME "-" NAME | "new" NUM | "array" NAME
          | NAME "[" term "]" | "&" [ "mut" ] NAME | NAME "(" [ term { "," term } ] ")"
`

// grammar has the choices of each part; a symbol is NAME, NUM, a key word or sign with a quote ahead, or a part. Brackets and braces are parts of their own, named by numbers.
type grammar struct {
	choices [][][]string
	parts   map[string]int
}

type grammarReader struct {
	g     *grammar
	words []string
}

func readGrammar(text string) *grammar {
	r := &grammarReader{g: &grammar{parts: map[string]int{}}}
	for _, line := range strings.Split(text, "\n") {
		r.words = append(r.words, splitGrammar(line)...)
	}
	for len(r.words) > 0 {
		name := r.words[0]
		r.words = r.words[2:]
		r.g.choices[r.g.part(name)] = r.readChoices()
	}
	return r.g
}

// splitGrammar: the words of a line of the grammar; a quoted one keeps the quote ahead of it.
func splitGrammar(line string) []string {
	var words []string
	for line = strings.TrimSpace(line); line != ""; line = strings.TrimSpace(line) {
		length := strings.IndexAny(line+" ", " ()")
		if strings.HasPrefix(line, `"`) {
			length = 1 + strings.Index(line[1:], `"`)
			words = append(words, line[:length])
			line = line[length+1:]
			continue
		}
		words = append(words, line[:max(length, 1)])
		line = line[max(length, 1):]
	}
	return words
}

func (g *grammar) part(name string) int {
	i, found := g.parts[name]
	if !found {
		i = len(g.choices)
		g.parts[name] = i
		g.choices = append(g.choices, nil)
	}
	return i
}

func (g *grammar) newPart() string {
	name := "part " + string(rune('A'+len(g.choices)))
	g.part(name)
	return name
}

func (r *grammarReader) readChoices() [][]string {
	choices := [][]string{nil}
	for len(r.words) > 0 && !(len(r.words) > 1 && r.words[1] == "=") {
		word := r.words[0]
		r.words = r.words[1:]
		last := &choices[len(choices)-1]
		switch word {
		case "|":
			choices = append(choices, nil)
		case "]", "}", ")":
			return choices
		case "[", "{", "(":
			name := r.g.newPart()
			inner := r.readChoices()
			if word == "{" {
				for i := range inner {
					inner[i] = append([]string{name}, inner[i]...)
				}
			}
			if word != "(" {
				inner = append(inner, nil)
			}
			r.g.choices[r.g.parts[name]] = inner
			*last = append(*last, name)
		default:
			*last = append(*last, word)
		}
	}
	return choices
}

// item is a choice of a part that was begun behind some tokens and is read up to dot.
type item struct{ part, choice, dot, begun int }

// reading is what is known behind each token so far: all items that the tokens allow (J. Earley's way). A token can't stand where it leaves no item.
type reading struct {
	g    *grammar
	sets [][]item
}

func (g *grammar) begin() *reading {
	r := &reading{g: g, sets: [][]item{nil}}
	r.predict(g.parts["unit"])
	r.close()
	return r
}

func (r *reading) add(x item) {
	last := len(r.sets) - 1
	for _, y := range r.sets[last] {
		if x == y {
			return
		}
	}
	r.sets[last] = append(r.sets[last], x)
}

func (r *reading) predict(part int) {
	for choice := range r.g.choices[part] {
		r.add(item{part, choice, 0, len(r.sets) - 1})
	}
}

func (r *reading) behindDot(x item) string {
	symbols := r.g.choices[x.part][x.choice]
	if x.dot == len(symbols) {
		return ""
	}
	return symbols[x.dot]
}

// close adds what follows from the last set's items, till nothing new does: an empty part is over where it began, so that one round isn't enough.
func (r *reading) close() {
	last := len(r.sets) - 1
	for before := -1; before != len(r.sets[last]); {
		before = len(r.sets[last])
		for i := 0; i < len(r.sets[last]); i++ {
			x := r.sets[last][i]
			symbol := r.behindDot(x)
			if part, found := r.g.parts[symbol]; found {
				r.predict(part)
			} else if symbol == "" {
				r.complete(x)
			}
		}
	}
}

func (r *reading) complete(x item) {
	for _, y := range r.sets[x.begun] {
		if part, found := r.g.parts[r.behindDot(y)]; found && part == x.part {
			y.dot++
			r.add(y)
		}
	}
}

// push reads one token more, if it can stand.
func (r *reading) push(t lex.Token) bool {
	symbol := `"` + t.Text
	switch t.Kind {
	case lex.Word:
		symbol = "NAME"
	case lex.Number:
		symbol = "NUM"
	}
	before := r.sets[len(r.sets)-1]
	r.sets = append(r.sets, nil)
	for _, x := range before {
		if r.behindDot(x) == symbol {
			x.dot++
			r.add(x)
		}
	}
	if len(r.sets[len(r.sets)-1]) == 0 {
		r.pop()
		return false
	}
	r.close()
	return true
}

func (r *reading) pop() { r.sets = r.sets[:len(r.sets)-1] }

// over: may the text end here?
func (r *reading) over() bool {
	for _, x := range r.sets[len(r.sets)-1] {
		if x.part == r.g.parts["unit"] && x.begun == 0 && r.behindDot(x) == "" {
			return true
		}
	}
	return false
}

// fault: what the chapter says of a text without a fault of lex, but for ErrMany.
func (g *grammar) fault(tokens []lex.Token) (int, api.Errno) {
	r := g.begin()
	depth := 0
	for _, t := range tokens {
		if t.Kind == lex.End && r.over() {
			return 0, api.OK
		}
		if t.Kind == lex.End || !r.push(t) {
			return t.At, api.ErrToken
		}
		// A type's braces hold none, so that they never count above 1.
		switch t.Text {
		case "{":
			if depth == api.MaxNest {
				return t.At, api.ErrNest
			}
			depth++
		case "}":
			depth--
		}
	}
	return 0, api.OK
}

func (g *grammar) hold(t *testing.T, text string) {
	t.Helper()
	tokens, wantAt, want := lex.Tokens(text)
	if want == api.OK {
		wantAt, want = g.fault(tokens)
	}
	n, at, e := Parse(text)
	if e == api.ErrMany && want == api.OK {
		return
	}
	if at != wantAt || e != want {
		t.Fatalf("P2.1: %q: the place %d, error %d; want %d, %d", text, at, e, wantAt, want)
	}
	if e != api.OK && !sameTree(n, Node{}) {
		t.Fatalf("rule 2: %q: beside error %d the tree %v", text, e, n)
	}
}

// alphabet: a token of each kind, each key word and each sign.
const alphabet = "x 7 type fn own cell counted lock guard where int mut free unlock if else while return abort fork new array -> <= == { } ( ) [ ] , : ; = + - & <"

// TestP21AllNextTokens goes on from the beginnings of every line of the grammar with every token there is, as far as they can stand.
func TestP21AllNextTokens(t *testing.T) {
	g := readGrammar(chapterGrammar)
	words := strings.Fields(alphabet)
	tried := 0
	var grow func(r *reading, text string, left int)
	grow = func(r *reading, text string, left int) {
		for _, word := range words {
			tried++
			longer := text + " " + word
			tokens, _, _ := lex.Tokens(word)
			viable := r.push(tokens[0])
			_, at, e := Parse(longer)
			if !viable && (at != len(text)+1 || e != api.ErrToken) {
				t.Fatalf("P2.1: %q: the place %d, error %d; want %d, %d", longer, at, e, len(text)+1, api.ErrToken)
			}
			if !viable {
				continue
			}
			if ends := r.over(); ends && (at != 0 || e != api.OK) || !ends && (at != len(longer) || e != api.ErrToken) {
				t.Fatalf("P2.1: %q: the place %d, error %d", longer, at, e)
			}
			if left > 1 {
				grow(r, longer, left-1)
			}
			r.pop()
		}
	}
	for _, ahead := range []string{
		"", "type t", "type t lock u", "type t own { a", "type t own where", "type t own where a < 1", "fn f", "fn f ( x :", "fn f ( x : int", "fn f ( )", "fn f ( ) ->",
		"fn f ( ) {", "fn f ( ) { x =", "fn f ( ) { x = y", "fn f ( ) { x [", "fn f ( ) { x (", "fn f ( ) { if x", "fn f ( ) { if x < 1 { }", "fn f ( ) { while 1", "fn f ( ) { fork f", "fn f ( ) { lock x",
	} {
		r := g.begin()
		tokens, _, _ := lex.Tokens(ahead)
		for _, token := range tokens[:len(tokens)-1] {
			if !r.push(token) {
				t.Fatalf("%q can't stand", ahead)
			}
		}
		grow(r, ahead, 6)
	}
	if tried < 100000 {
		t.Errorf("only %d texts were tried", tried)
	}
}

const samples = `type vec own { len, cap, d[cap] } where 0 <= len, len <= cap;
type c counted m { n } where 0 < n;
fn get(v: &vec, i: int) -> int { n = v[0]; if i < n { d = v[2]; return d; } else { abort; } }
fn new_vec() -> own vec { p = new 3; p[z + 1] = -3; q = array n; free q; }
fn run(w: own l, u: &mut g) { lock w[0]; unlock w[1]; fork f(x, 1); f(y - 1); z = g(); y = &mut x; v = &x; }
fn sum() { while z == 0 { z = z - z; z = z + z; z = z - 1; } return; }`

// TestP21OneTokenChanged: the samples with one token left out, put in, or changed for another.
func TestP21OneTokenChanged(t *testing.T) {
	g := readGrammar(chapterGrammar)
	for _, sample := range strings.Split(samples, "\n") {
		g.hold(t, sample)
		tokens, _, _ := lex.Tokens(sample)
		mustParse(t, sample)
		for _, token := range tokens {
			ahead, behind := sample[:token.At], sample[token.At+len(token.Text):]
			g.hold(t, ahead+behind)
			for _, word := range strings.Fields(alphabet) {
				g.hold(t, ahead+" "+word+" "+behind)
				g.hold(t, ahead+" "+word+" "+token.Text+behind)
			}
		}
	}
}

func FuzzParse(f *testing.F) {
	for _, sample := range strings.Split(samples, "\n") {
		f.Add(sample)
	}
	f.Add(samples)
	f.Add(nested(api.MaxNest + 1))
	g := readGrammar(chapterGrammar)
	f.Fuzz(func(t *testing.T, text string) {
		if len(text) <= 1000 {
			g.hold(t, text)
		}
	})
}
