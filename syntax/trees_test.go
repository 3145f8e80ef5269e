package syntax

import (
	"math/rand"
	"strconv"
	"strings"
	"testing"

	"lychgate/api"
)

// writer writes texts and, beside them, the trees that the chapter's table gives for them; what it writes is chosen by numbers that are the same at each run.
type writer struct {
	chosen  *rand.Rand
	text    strings.Builder
	depth   int
	deepest int
}

func (w *writer) pick(choices ...string) string { return choices[w.chosen.Intn(len(choices))] }

func (w *writer) maybe() bool { return w.chosen.Intn(2) == 0 }

// put writes tokens, with something between them, and tells the place of the first one.
func (w *writer) put(tokens ...string) int {
	first := -1
	for _, token := range tokens {
		w.text.WriteString(w.pick(" ", " ", "\n", "  \n ", " # x = 1; }\n"))
		if first < 0 {
			first = w.text.Len()
		}
		w.text.WriteString(token)
	}
	return first
}

func (w *writer) putName() (string, int) {
	name := w.pick("x", "y", "_", "vec", "owner", "a_name_of_16_byt", "f1", "ints")
	return name, w.put(name)
}

func (w *writer) putNumber() (int64, int) {
	numbers := []int64{0, 1, 2, 10, 1 << 20, api.MaxNum - 1, api.MaxNum}
	n := numbers[w.chosen.Intn(len(numbers))]
	return n, w.put(strconv.FormatInt(n, 10))
}

func (w *writer) several(least int, item func() Node) []Node {
	var items []Node
	for i := range least + w.chosen.Intn(3) {
		if i > 0 {
			w.put(",")
		}
		items = append(items, item())
	}
	return items
}

func (w *writer) terms() []Node {
	w.put("(")
	items := w.several(0, w.term)
	w.put(")")
	return items
}

func (w *writer) nameTerm() Node {
	name, at := w.putName()
	return Node{Kind: Term, Text: name, At: at}
}

func (w *writer) term() Node {
	n := Node{Kind: Term}
	switch w.chosen.Intn(5) {
	case 0:
		n.Num, n.At = w.putNumber()
	case 1:
		n.At = w.put("-")
		n.Num, _ = w.putNumber()
		n.Num = -n.Num
	case 2:
		n = w.nameTerm()
		w.put("+")
		n.Num, _ = w.putNumber()
	case 3:
		n = w.nameTerm()
		w.put("-")
		n.Num, _ = w.putNumber()
		n.Num = -n.Num
	default:
		n = w.nameTerm()
	}
	return n
}

func (w *writer) comparison(kind Kind) Node {
	left := w.term()
	cmp := w.pick("<", "<=", "==")
	w.put(cmp)
	return Node{Kind: kind, Text: cmp, At: left.At, Kids: []Node{left, w.term()}}
}

func (w *writer) typeNode() Node {
	n := Node{Kind: Type, At: w.put("type")}
	n.Text, _ = w.putName()
	sort := Node{Kind: Sort, Text: w.pick("own", "cell", "counted", "lock", "guard")}
	sort.At = w.put(sort.Text)
	if strings.Contains("counted lock guard", sort.Text) {
		sort.Kids = []Node{w.nameTerm()}
	}
	n.Kids = []Node{sort}
	if w.maybe() {
		w.put("{")
		n.Kids = append(n.Kids, w.several(1, w.field)...)
		w.put("}")
	}
	if w.maybe() {
		w.put("where")
		n.Kids = append(n.Kids, w.several(1, func() Node { return w.comparison(Fact) })...)
	}
	w.put(";")
	return n
}

func (w *writer) field() Node {
	n := w.nameTerm()
	n.Kind = Field
	if w.maybe() {
		w.put("[")
		n.Kids = []Node{w.nameTerm()}
		w.put("]")
	}
	return n
}

func (w *writer) fnNode() Node {
	n := Node{Kind: Fn, At: w.put("fn")}
	n.Text, _ = w.putName()
	w.put("(")
	n.Kids = w.several(0, w.param)
	w.put(")")
	result := Node{Kind: Mode}
	if w.maybe() {
		w.put("->")
		result = w.mode("int", "own")
	}
	body := w.block()
	if result.Text == "" {
		result.At = body.At
	}
	n.Kids = append(n.Kids, result, body)
	return n
}

func (w *writer) param() Node {
	n := w.nameTerm()
	n.Kind = Param
	w.put(":")
	n.Kids = []Node{w.mode("int", "own", "&", "&mut")}
	return n
}

func (w *writer) mode(choices ...string) Node {
	n := Node{Kind: Mode, Text: w.pick(choices...)}
	switch n.Text {
	case "int":
		n.At = w.put("int")
		return n
	case "&mut":
		n.At = w.put("&", "mut")
	default:
		n.At = w.put(n.Text)
	}
	n.Kids = []Node{w.nameTerm()}
	return n
}

func (w *writer) block() Node {
	n := Node{Kind: Block, At: w.put("{")}
	w.depth++
	w.deepest = max(w.deepest, w.depth)
	for range w.chosen.Intn(5) {
		n.Kids = append(n.Kids, w.statement())
	}
	w.depth--
	w.put("}")
	return n
}

func (w *writer) statement() Node {
	if w.depth < api.MaxNest && w.chosen.Intn(3) == 0 {
		return w.branching()
	}
	n := w.simple()
	w.put(";")
	return n
}

func (w *writer) branching() Node {
	if w.maybe() {
		at := w.put("while")
		n := w.comparison(While)
		n.At = at
		n.Kids = append(n.Kids, w.block())
		return n
	}
	at := w.put("if")
	n := w.comparison(If)
	n.At = at
	n.Kids = append(n.Kids, w.block())
	if w.maybe() {
		w.put("else")
		n.Kids = append(n.Kids, w.block())
	} else {
		n.Kids = append(n.Kids, Node{Kind: Block, At: at})
	}
	return n
}

func (w *writer) simple() Node {
	n := Node{}
	switch kinds := []Kind{Set, Set, Set, Store, Do, Free, Lock, Unlock, Return, Abort, Fork}; kinds[w.chosen.Intn(len(kinds))] {
	case Set:
		n.Kind = Set
		n.Text, n.At = w.putName()
		w.put("=")
		n.Kids = []Node{w.expr()}
	case Store:
		n.Kind = Store
		n.Text, n.At = w.putName()
		w.put("[")
		index := w.term()
		w.put("]", "=")
		n.Kids = []Node{index, w.term()}
	case Do:
		call := Node{Kind: Call}
		call.Text, call.At = w.putName()
		call.Kids = w.terms()
		n = Node{Kind: Do, At: call.At, Kids: []Node{call}}
	case Free:
		n = Node{Kind: Free, At: w.put("free")}
		n.Text, _ = w.putName()
	case Lock:
		n = w.locking(Lock, "lock")
	case Unlock:
		n = w.locking(Unlock, "unlock")
	case Return:
		n = Node{Kind: Return, At: w.put("return")}
		if w.maybe() {
			n.Kids = []Node{w.term()}
		}
	case Abort:
		n = Node{Kind: Abort, At: w.put("abort")}
	case Fork:
		n = Node{Kind: Fork, At: w.put("fork")}
		n.Text, _ = w.putName()
		n.Kids = w.terms()
	}
	return n
}

func (w *writer) locking(kind Kind, word string) Node {
	n := Node{Kind: kind, At: w.put(word)}
	n.Text, _ = w.putName()
	w.put("[")
	n.Num, _ = w.putNumber()
	w.put("]")
	return n
}

func (w *writer) expr() Node {
	n := Node{}
	switch kinds := []Kind{Term, Sum, Less, New, Array, Load, Ref, MutRef, Call}; kinds[w.chosen.Intn(len(kinds))] {
	case Term:
		n = w.term()
	case Sum:
		n = w.sumOf(Sum, "+")
	case Less:
		n = w.sumOf(Less, "-")
	case New:
		n = Node{Kind: New, At: w.put("new")}
		n.Num, _ = w.putNumber()
	case Array:
		n = Node{Kind: Array, At: w.put("array")}
		n.Text, _ = w.putName()
	case Load:
		n.Kind = Load
		n.Text, n.At = w.putName()
		w.put("[")
		n.Kids = []Node{w.term()}
		w.put("]")
	case Ref:
		n = Node{Kind: Ref, At: w.put("&")}
		n.Text, _ = w.putName()
	case MutRef:
		n = Node{Kind: MutRef, At: w.put("&", "mut")}
		n.Text, _ = w.putName()
	case Call:
		n.Kind = Call
		n.Text, n.At = w.putName()
		n.Kids = w.terms()
	}
	return n
}

func (w *writer) sumOf(kind Kind, sign string) Node {
	left := w.nameTerm()
	w.put(sign)
	return Node{Kind: kind, At: left.At, Kids: []Node{left, w.nameTerm()}}
}

func (w *writer) unit() Node {
	n := Node{Kind: Unit}
	for range w.chosen.Intn(5) {
		if w.maybe() {
			n.Kids = append(n.Kids, w.typeNode())
		} else {
			n.Kids = append(n.Kids, w.fnNode())
		}
	}
	return n
}

func TestP21WrittenTrees(t *testing.T) {
	read, deepest := 0, 0
	for seed := range int64(3000) {
		w := &writer{chosen: rand.New(rand.NewSource(seed))}
		want := w.unit()
		text := w.text.String()
		if len(text) > api.MaxText {
			wantFault(t, text, 0, api.ErrLong)
			continue
		}
		size := strings.Count(dump(want, 0), "@")
		if size > api.MaxNodes {
			wantFault(t, text, 0, api.ErrMany)
			continue
		}
		read++
		deepest = max(deepest, w.deepest)
		n := mustParse(t, text)
		if !sameTree(n, want) {
			t.Fatalf("P2.1: %q:\n got %s\nwant %s", text, dump(n, 0), dump(want, 0))
		}
		if Size(n) != size {
			t.Fatalf("P2.2: %q: %d, want %d", text, Size(n), size)
		}
	}
	if read < 2000 || deepest != api.MaxNest {
		t.Errorf("%d texts were read, with blocks %d deep: not enough to tell", read, deepest)
	}
}
