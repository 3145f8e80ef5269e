package code

import (
	"math"
	"reflect"
	"slices"
	"testing"
)

func wantNames(t *testing.T, i Instr, want ...string) {
	t.Helper()
	if got := Names(i); !slices.Equal(got, want) {
		t.Errorf("P7.2: %v: %q, want %q", i, got, want)
	}
}

// TestP72Code: what the instructions of a function read.
func TestP72Code(t *testing.T) {
	for _, c := range []struct {
		text string
		want []string
	}{
		{"x=1;", nil},
		{"x=y;", []string{"y"}},
		{"x=x+1;", []string{"x"}},
		{"x=&y;", []string{"y"}},
		{"x=& mut x;", []string{"x"}},
		{"x=y+z;", []string{"y", "z"}},
		{"x=z-z;", []string{"z", "z"}},
		{"x=new 3;", nil},
		{"x=array n;", []string{"n"}},
		{"x=p[0];", []string{"p"}},
		{"x=p[i];", []string{"p", "i"}},
		{"p=p[p];", []string{"p", "p"}},
		{"p[1]=2;", []string{"p"}},
		{"p[i-1]=2;", []string{"p", "i"}},
		{"p[1]=v;", []string{"p", "v"}},
		{"p[z]=a;", []string{"p", "z", "a"}},
		{"p[p]=p;", []string{"p", "p", "p"}},
		{"free p;", []string{"p"}},
		{"lock p[1];", []string{"p"}},
		{"unlock p[1];", []string{"p"}},
		{"f();", nil},
		{"f(1,-2);", nil},
		{"f(z,1,a,z);", []string{"z", "a", "z"}},
		{"x=f();", nil},
		{"x=f(x,f,x+1);", []string{"x", "f", "x"}},
		{"fork f();", nil},
		{"fork f(b,2,a,b);", []string{"b", "a", "b"}},
		{"return;", nil},
		{"return 1;", nil},
		{"return x-1;", []string{"x"}},
		{"abort;", nil},
		{"if 1<2{}", nil},
		{"if z<a{}", []string{"z", "a"}},
		{"if 1==a{}else{}", []string{"a"}},
		{"while x<=x{}", []string{"x", "x"}},
		{"while x<1{}", []string{"x"}},
	} {
		list := lower(t, ahead+c.text+"}").List
		wantNames(t, list[0], c.want...)
		for _, i := range list[1:] {
			wantNames(t, i)
		}
	}
}

// readsY: does an instruction read Y?
func readsY(op Op) bool {
	return op == Load || op == Store || op == Free || op == Lock || op == Unlock
}

// TestP72AllFields: what is told hangs on the Op only as far as Y is told; X, numbers and terms without a Name never are.
func TestP72AllFields(t *testing.T) {
	ops := []Op{math.MinInt, -1, Abort + 1, math.MaxInt}
	for op := Set; op <= Abort; op++ {
		ops = append(ops, op)
	}
	for _, op := range ops {
		var y []string
		if readsY(op) {
			y = []string{"y"}
		}
		full := Instr{Op: op, At: 1, X: "x", Y: "y", A: Term{"a", 1}, B: Term{"b", -1}, Args: []Term{{"d", 0}, {"c", 2}}, To: 3, Has: true}
		wantNames(t, full, append(y, "a", "b", "d", "c")...)
		wantNames(t, Instr{Op: op, X: "x", Y: "y"}, y...)
		wantNames(t, Instr{Op: op, X: "x", Y: "y", A: Term{"", 1}, B: Term{"", 2}, Args: []Term{{"", 3}, {}}, To: 1, Has: true}, y...)
		same := Term{"y", math.MinInt64}
		wantNames(t, Instr{Op: op, X: "y", Y: "y", A: same, B: same, Args: []Term{same, {"", 1}, same}}, append(y, "y", "y", "y", "y")...)
		wantNames(t, Instr{Op: op, Y: "y", B: Term{"b", 0}, Args: []Term{{}, {"c", 0}}}, append(y, "b", "c")...)
		wantNames(t, Instr{Op: op, Y: "y", A: Term{"\xff 1", 0}, Args: []Term{{"Set", math.MaxInt64}}}, append(y, "\xff 1", "Set")...)
		// A Y without bytes is told: it is the terms alone that may lack a Name.
		if got := Names(Instr{Op: op}); readsY(op) && !slices.Equal(got, []string{""}) || !readsY(op) && len(got) > 0 {
			t.Errorf("P7.2: of the Op %d alone: %q", op, got)
		}
	}
}

// TestP72Memory: what is handed in stays as it is, also behind a list's length, and what is answered is new (rule 4).
func TestP72Memory(t *testing.T) {
	args := []Term{{"c", 0}, {"d", 0}, {"e", 0}}
	i := Instr{Op: Store, Y: "y", A: Term{"a", 0}, B: Term{"b", 0}, Args: args[:2]}
	before := Instr{Op: Store, Y: "y", A: Term{"a", 0}, B: Term{"b", 0}, Args: []Term{{"c", 0}, {"d", 0}}}
	want := []string{"y", "a", "b", "c", "d"}
	first, second := Names(i), Names(i)
	if !slices.Equal(first, want) || !reflect.DeepEqual(i, before) || args[2].Name != "e" {
		t.Errorf("rule 4: %q, and %v, %v behind", first, i, args)
	}
	whole := first[:cap(first)]
	for k := range whole {
		whole[k] = "?"
	}
	if !slices.Equal(second, want) || !slices.Equal(Names(i), want) {
		t.Errorf("rule 4: two answers share memory: %q", second)
	}
	i.Args = args[:0]
	wantNames(t, i, "y", "a", "b")
}
