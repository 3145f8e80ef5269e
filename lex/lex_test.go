package lex

import (
	"regexp"
	"slices"
	"strconv"
	"strings"
	"testing"

	"lychgate/api"
)

// allKeys is written out again, so that a key word that is missing in the program is missed here.
const allKeys = "type fn own cell counted lock guard where int mut free unlock if else while return abort fork new array"

const allSigns = "-> <= == { } ( ) [ ] , : ; = + - & <"

func mustTokens(t *testing.T, text string) []Token {
	t.Helper()
	l, at, e := Tokens(text)
	if at != 0 || e != api.OK {
		t.Fatalf("P1.1: %.40q: the place %d, error %d", text, at, e)
	}
	return l
}

func wantTokens(t *testing.T, text string, want ...Token) {
	t.Helper()
	want = append(want, Token{Kind: End, At: len(text)})
	if got := mustTokens(t, text); !slices.Equal(got, want) {
		t.Errorf("P1.1, P1.2: %.40q: %v, want %v", text, got, want)
	}
}

func wantFault(t *testing.T, text string, at int, e api.Errno) {
	t.Helper()
	if l, gotAt, got := Tokens(text); len(l) != 0 || gotAt != at || got != e {
		t.Errorf("P1.1: %.40q: %d tokens, the place %d, error %d; want none, %d, %d", text, len(l), gotAt, got, at, e)
	}
}

func TestP11Ordinary(t *testing.T) {
	wantTokens(t, "x=-1", Token{Word, "x", 0, 0}, Token{Sign, "=", 0, 1}, Token{Sign, "-", 0, 2}, Token{Number, "1", 1, 3})
	wantTokens(t, "a<=b", Token{Word, "a", 0, 0}, Token{Sign, "<=", 0, 1}, Token{Word, "b", 0, 3})
	wantTokens(t, "a <b", Token{Word, "a", 0, 0}, Token{Sign, "<", 0, 2}, Token{Word, "b", 0, 3})
	wantTokens(t, "fn f() -> int {}\n",
		Token{Key, "fn", 0, 0}, Token{Word, "f", 0, 3}, Token{Sign, "(", 0, 4}, Token{Sign, ")", 0, 5},
		Token{Sign, "->", 0, 7}, Token{Key, "int", 0, 10}, Token{Sign, "{", 0, 14}, Token{Sign, "}", 0, 15})
}

func TestP11NothingButBlanksAndRemarks(t *testing.T) {
	for _, text := range []string{"", " ", "\n", " \n \n", "#", "#\n", "##", "# A > \t \x00 \xff 01 1a", "#a\n#b", "#a\n \n#b\n"} {
		wantTokens(t, text)
	}
}

func TestP11Remarks(t *testing.T) {
	wantTokens(t, "a#b\nc", Token{Word, "a", 0, 0}, Token{Word, "c", 0, 4})
	wantTokens(t, "1#2", Token{Number, "1", 1, 0})
	wantTokens(t, "-#\n", Token{Sign, "-", 0, 0})
	wantTokens(t, "<#\n=", Token{Sign, "<", 0, 0}, Token{Sign, "=", 0, 3})
	wantTokens(t, "# a # b\nx # c", Token{Word, "x", 0, 8})
	wantFault(t, "#A\nA", 3, api.ErrByte)
	wantFault(t, "#A\rA\n\r", 5, api.ErrByte)
}

func TestP11LongerSign(t *testing.T) {
	for text, want := range map[string]string{
		"->": "->", "- -": "- -", "-->": "- ->", "<=": "<=", "< =": "< =", "<<=": "< <=", "<==": "<= =", "<===": "<= ==",
		"==": "==", "= =": "= =", "===": "== =", "====": "== ==", "=-": "= -", "=->": "= ->", "<-": "< -", "<->": "< ->",
		"=<=": "= <=", "&&": "& &", "[[]]": "[ [ ] ]", "-1": "- 1", "a-b->c": "a - b -> c", "+-": "+ -",
	} {
		var got []string
		l := mustTokens(t, text)
		for _, x := range l[:len(l)-1] {
			got = append(got, x.Text)
		}
		if strings.Join(got, " ") != want {
			t.Errorf("P1.1: %q: %q, want %q", text, got, want)
		}
	}
}

func TestP11TextLength(t *testing.T) {
	wantTokens(t, strings.Repeat(" ", api.MaxText))
	wantTokens(t, "#"+strings.Repeat("A", api.MaxText-1))
	wantTokens(t, strings.Repeat("\n", api.MaxText-1)+"x", Token{Word, "x", 0, api.MaxText - 1})
	wantFault(t, strings.Repeat(" ", api.MaxText-1)+"A", api.MaxText-1, api.ErrByte)
	wantFault(t, strings.Repeat(" ", api.MaxText+1), 0, api.ErrLong)
	wantFault(t, strings.Repeat(" ", api.MaxText)+"A", 0, api.ErrLong)
	wantFault(t, " A 01"+strings.Repeat("a", api.MaxText), 0, api.ErrLong)
	wantFault(t, strings.Repeat("\xff", 1<<20), 0, api.ErrLong)
	if l := mustTokens(t, strings.Repeat("-", api.MaxText)); len(l) != api.MaxText+1 {
		t.Errorf("P1.1: %d tokens", len(l))
	}
}

func TestP11Words(t *testing.T) {
	long := strings.Repeat("a", api.MaxName)
	for _, word := range []string{"a", "z", "_", "__", "_0", "a0", "az_09", "x1", "owner", "ow", "ints", "fn_", "_fn", long, "_" + long[1:], long[:15] + "9"} {
		wantTokens(t, word, Token{Word, word, 0, 0})
		wantTokens(t, " "+word+";", Token{Word, word, 0, 1}, Token{Sign, ";", 0, 1 + len(word)})
	}
	for _, word := range []string{long + "a", long + "0", long + "_", "_" + long, "return" + long, strings.Repeat("_", api.MaxText-2)} {
		wantFault(t, word, 0, api.ErrWord)
		wantFault(t, "x "+word, 2, api.ErrWord)
	}
	wantTokens(t, long+" "+long, Token{Word, long, 0, 0}, Token{Word, long, 0, api.MaxName + 1})
	wantFault(t, long+"A", api.MaxName, api.ErrByte)
}

func TestP11Numbers(t *testing.T) {
	for text, n := range map[string]int64{"0": 0, "1": 1, "9": 9, "10": 10, "100": 100, "1234567890": 1234567890, "1099511627775": api.MaxNum - 1, "1099511627776": api.MaxNum, "999999999999": 999999999999} {
		wantTokens(t, text, Token{Number, text, n, 0})
		wantTokens(t, "\n"+text+"]", Token{Number, text, n, 1}, Token{Sign, "]", 0, 1 + len(text)})
	}
	wantTokens(t, "0 0", Token{Number, "0", 0, 0}, Token{Number, "0", 0, 2})
	for _, text := range []string{
		"00", "01", "000", "0123", "1a", "1z", "1_", "0a", "0_", "12x", "1099511627776a",
		"1099511627777", "1099511627780", "9999999999999", "10995116277760",
		"9223372036854775807", "9223372036854775808", "18446744073709551616", "18446744073709551617",
		"340282366920938463463374607431768211457", "1" + strings.Repeat("0", 400), strings.Repeat("9", api.MaxText-2),
		"0" + strings.Repeat("0", 400), "1" + strings.Repeat("a", 40),
	} {
		wantFault(t, text, 0, api.ErrNumber)
		wantFault(t, "- "+text, 2, api.ErrNumber)
	}
	wantFault(t, "1A", 1, api.ErrByte)
	wantFault(t, "1.5", 1, api.ErrByte)
	wantTokens(t, "1#a", Token{Number, "1", 1, 0})
	wantTokens(t, "1 a", Token{Number, "1", 1, 0}, Token{Word, "a", 0, 2})
	wantTokens(t, "1+a", Token{Number, "1", 1, 0}, Token{Sign, "+", 0, 1}, Token{Word, "a", 0, 2})
}

// TestP11EachByte: of all bytes only those that the chapter names begin something.
func TestP11EachByte(t *testing.T) {
	const begins = " \n#abcdefghijklmnopqrstuvwxyz_0123456789{}()[],:;=+-&<"
	for b := 0; b < 256; b++ {
		text := "x " + string([]byte{byte(b)})
		if _, at, e := Tokens(text); strings.IndexByte(begins, byte(b)) >= 0 {
			if at != 0 || e != api.OK {
				t.Errorf("P1.1: the byte %d: the place %d, error %d", b, at, e)
			}
		} else if at != 2 || e != api.ErrByte {
			t.Errorf("P1.1: the byte %d: the place %d, error %d", b, at, e)
		}
	}
}

func TestP11FirstFaultFromTheLeft(t *testing.T) {
	long := strings.Repeat("a", api.MaxName+1)
	wantFault(t, "A "+long+" 01", 0, api.ErrByte)
	wantFault(t, "a "+long+" A 01", 2, api.ErrWord)
	wantFault(t, "a 01 "+long+" A", 2, api.ErrNumber)
	wantFault(t, "1"+long+" A", 0, api.ErrNumber)
	wantFault(t, "#A\n "+long+"A", 4, api.ErrWord)
	wantFault(t, "x\t01", 1, api.ErrByte)
	wantFault(t, "x = 1;\n> 01", 7, api.ErrByte)
	wantFault(t, "=>", 1, api.ErrByte)
	wantFault(t, "->>", 2, api.ErrByte)
	wantFault(t, "- >", 2, api.ErrByte)
	wantFault(t, "a\r\nb", 1, api.ErrByte)
	wantFault(t, "a é", 2, api.ErrByte)
}

func TestP12Kinds(t *testing.T) {
	for _, key := range strings.Fields(allKeys) {
		wantTokens(t, key, Token{Key, key, 0, 0})
		wantTokens(t, "("+key+")", Token{Sign, "(", 0, 0}, Token{Key, key, 0, 1}, Token{Sign, ")", 0, 1 + len(key)})
		wantTokens(t, key+"_", Token{Word, key + "_", 0, 0})
		wantTokens(t, key+"0", Token{Word, key + "0", 0, 0})
		wantTokens(t, key[1:], Token{Word, key[1:], 0, 0})
	}
	for _, sign := range strings.Fields(allSigns) {
		wantTokens(t, sign, Token{Sign, sign, 0, 0})
		wantTokens(t, "7 "+sign+" x", Token{Number, "7", 7, 0}, Token{Sign, sign, 0, 2}, Token{Word, "x", 0, 3 + len(sign)})
	}
	if End != 0 || Word != 1 || Key != 2 || Number != 3 || Sign != 4 {
		t.Errorf("the kinds' numbers: %d %d %d %d %d", End, Word, Key, Number, Sign)
	}
}

func TestP13(t *testing.T) {
	for _, key := range strings.Fields(allKeys) {
		if !IsKey(key) || IsName(key) {
			t.Errorf("P1.3: the key word %s", key)
		}
	}
	for _, name := range []string{"a", "z", "_", "_1", "a_b", "x09", "owner", "types", "ow", "unlock_", "elsewhere", strings.Repeat("n", api.MaxName)} {
		if !IsName(name) || IsKey(name) {
			t.Errorf("P1.3: the name %s", name)
		}
	}
	for _, s := range []string{
		"", " ", "0", "1a", "12", "A", "aB", "a b", " a", "a ", "a\n", "a-b", "a#", "#a", "->", "é", "aé", "a\x00", "Own", "own ", " own", "OWN", "own\n",
		allKeys, strings.Repeat("n", api.MaxName+1), strings.Repeat("n", 1<<20),
	} {
		if IsName(s) || IsKey(s) {
			t.Errorf("P1.3: %.40q: %v, %v", s, IsName(s), IsKey(s))
		}
	}
}

// model is the chapter's words as patterns, an account of it that has nothing of the program's.
type model struct{ between, word, number, sign *regexp.Regexp }

func newModel() model {
	return model{
		between: regexp.MustCompile(`^(?:[ \n]|#[^\n]*)+`),
		word:    regexp.MustCompile(`^[a-z_][a-z0-9_]*`),
		number:  regexp.MustCompile(`^[0-9]+[a-z_]?`),
		sign:    regexp.MustCompile(`^(?:->|<=|==|[{}()\[\],:;=+&<-])`),
	}
}

func (m model) tokens(text string) ([]Token, int, api.Errno) {
	var out []Token
	for at := 0; at < len(text); {
		rest := text[at:]
		if s := m.between.FindString(rest); s != "" {
			at += len(s)
			continue
		}
		x := Token{At: at}
		if s := m.word.FindString(rest); s != "" {
			x.Kind, x.Text = Word, s
			if slices.Contains(strings.Fields(allKeys), s) {
				x.Kind = Key
			}
			if len(s) > api.MaxName {
				return nil, at, api.ErrWord
			}
		} else if s := m.number.FindString(rest); s != "" {
			n, err := strconv.ParseInt(s, 10, 64)
			if err != nil || n > api.MaxNum || strconv.FormatInt(n, 10) != s {
				return nil, at, api.ErrNumber
			}
			x.Kind, x.Text, x.Num = Number, s, n
		} else if s := m.sign.FindString(rest); s != "" {
			x.Kind, x.Text = Sign, s
		} else {
			return nil, at, api.ErrByte
		}
		out = append(out, x)
		at += len(x.Text)
	}
	return append(out, Token{Kind: End, At: len(text)}), 0, api.OK
}

func (m model) hold(t *testing.T, text string) {
	l, at, e := Tokens(text)
	wantL, wantAt, wantE := m.tokens(text)
	if !slices.Equal(l, wantL) || at != wantAt || e != wantE {
		t.Fatalf("P1.1, P1.2: %q: %v, %d, %d; want %v, %d, %d", text, l, at, e, wantL, wantAt, wantE)
	}
	name := e == api.OK && len(l) == 2 && l[0].Kind == Word && l[0].Text == text
	key := e == api.OK && len(l) == 2 && l[0].Kind == Key && l[0].Text == text
	if IsName(text) != name || IsKey(text) != key {
		t.Fatalf("P1.3: %q: %v, %v", text, IsName(text), IsKey(text))
	}
}

// TestAllShortTexts holds the program against the model at every text of few pieces.
func TestAllShortTexts(t *testing.T) {
	pieces := []string{"a", "_", "0", "1", "9", "-", ">", "<", "=", "#", " ", "\n", "\t", "A", "\xff", "fn", "{", "aaaaaaaaaaaaaaa", "10995116277"}
	m := newModel()
	var grow func(text string, left int)
	grow = func(text string, left int) {
		m.hold(t, text)
		if left == 0 {
			return
		}
		for _, p := range pieces {
			grow(text+p, left-1)
		}
	}
	grow("", 4)
}

func FuzzTokens(f *testing.F) {
	f.Add("fn f(x: &mut vec) -> int { # x\n x[0] = x1<=-12; }")
	m := newModel()
	f.Fuzz(func(t *testing.T, text string) {
		if len(text) <= api.MaxText {
			m.hold(t, text)
		}
	})
}

// TestAnswersAreNew: what is done with one answer isn't seen in the next (rules 4 and 8, P2).
func TestAnswersAreNew(t *testing.T) {
	const text = "type vec own { len, buf[len] } where -1 < len;"
	first := mustTokens(t, text)
	want := slices.Clone(first)
	for i := range first {
		first[i] = Token{Sign, "?", 1, 1}
	}
	if again := mustTokens(t, text); !slices.Equal(again, want) {
		t.Errorf("rule 8: %v, want %v", again, want)
	}
}
