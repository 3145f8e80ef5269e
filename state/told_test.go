package state

import (
	"slices"
	"strconv"
	"strings"
	"testing"

	"lychgate/api"
	"lychgate/link"
	"lychgate/mem"
	"lychgate/syntax"
)

var endNames = [...]string{"Running", "Done", "Stuck", "Aborted", "Overflow", "Full"}

var whyNames = [...]string{"Fine", "Type", "Gone", "Bounds", "Empty", "Inside", "Race"}

// textOfValue: 3 of an Int, *1.0 of a pointer to cell 0 of block 1, _ of Poison; and of what is odd all of it.
func textOfValue(v mem.Value) string {
	switch {
	case v == mem.Value{}:
		return "_"
	case v.Kind == mem.Int && v.Block == 0:
		return strconv.FormatInt(v.N, 10)
	case v.Kind == mem.Ptr:
		return "*" + strconv.Itoa(v.Block) + "." + strconv.FormatInt(v.N, 10)
	}
	return "?" + strconv.Itoa(int(v.Kind)) + "," + strconv.FormatInt(v.N, 10) + "," + strconv.Itoa(v.Block)
}

// textOfFrame: the numbers of the code and of the next instruction, the variables, and where the result goes.
func textOfFrame(f Frame) string {
	parts := []string{strconv.Itoa(f.Code) + "@" + strconv.Itoa(f.At)}
	for _, v := range f.Vars {
		parts = append(parts, v.Name+"="+textOfValue(v.Value))
	}
	if f.Into != "" {
		parts = append(parts, ">"+f.Into)
	}
	return strings.Join(parts, " ")
}

// textOfThread: its frames, the last one last, and what it is busy with; a - of one that has ended.
func textOfThread(t Thread) string {
	var frames []string
	for _, f := range t.Frames {
		frames = append(frames, textOfFrame(f))
	}
	text := strings.Join(frames, " / ")
	if len(frames) == 0 {
		text = "-"
	}
	if t.Busy || t.P != (mem.Value{}) || t.V != (mem.Value{}) {
		text += " busy(" + strconv.FormatBool(t.Busy) + " " + textOfValue(t.P) + " " + textOfValue(t.V) + ")"
	}
	return text
}

// textOfBlock: the cells, each with an r for each reader and a w for a writer, in brackets; in parentheses, if the block isn't live.
func textOfBlock(b mem.Block) string {
	var cells []string
	for i, v := range b.Cells {
		text := textOfValue(v) + strings.Repeat("r", b.Readers[i])
		if b.Writer[i] {
			text += "w"
		}
		cells = append(cells, text)
	}
	if b.Live {
		return "[" + strings.Join(cells, " ") + "]"
	}
	return "(" + strings.Join(cells, " ") + ")"
}

// textOf: all that is told, but for how many cells count, which the blocks tell: wantTold holds that to them.
func textOf(told Told) string {
	text := endNames[told.End]
	if told.Why != mem.Fine || told.Thread != 0 || told.End == Stuck {
		text += " " + whyNames[told.Why] + " " + strconv.Itoa(told.Thread)
	}
	var threads, blocks []string
	for _, t := range told.Threads {
		threads = append(threads, textOfThread(t))
	}
	for _, b := range told.Blocks {
		blocks = append(blocks, textOfBlock(b))
	}
	return text + " | " + strings.Join(threads, "; ") + " | " + strings.Join(blocks, "")
}

func usedBy(blocks []mem.Block) int {
	used := len(blocks)
	for _, b := range blocks {
		used += len(b.Cells)
	}
	return used
}

// liveOf: the numbers of the threads that are told with frames.
func liveOf(told Told) []int {
	var live []int
	for number, t := range told.Threads {
		if len(t.Frames) > 0 {
			live = append(live, number)
		}
	}
	return live
}

// wantTold holds a machine to the text of all that it tells, and what it tells by its other calls to that.
func wantTold(t *testing.T, x *Machine, want string) {
	t.Helper()
	told := x.Tell()
	if got := textOf(told); got != want {
		t.Errorf("P9.2, P9.3: the machine is\n got %s\nwant %s", got, want)
	}
	if told.Used != usedBy(told.Blocks) {
		t.Errorf("P9.3: Used is %d, but of the blocks %d", told.Used, usedBy(told.Blocks))
	}
	if x.End() != told.End {
		t.Errorf("P9.3: End is %d, but %d is told", x.End(), told.End)
	}
	if live := x.Live(); !slices.Equal(live, liveOf(told)) {
		t.Errorf("P9.3: Live is %v, but of what is told %v", live, liveOf(told))
	}
}

// wantResult: the text of the result, empty if there is none.
func wantResult(t *testing.T, x *Machine, want string) {
	t.Helper()
	v, ok := x.Result()
	got := ""
	if ok {
		got = textOfValue(v)
	}
	if got != want || !ok && v != (mem.Value{}) {
		t.Errorf("P9.3: the result is %q (%v, %v), want %q", got, v, ok, want)
	}
}

func mustParse(t *testing.T, text string) syntax.Node {
	t.Helper()
	tree, at, e := syntax.Parse(text)
	if e != api.OK {
		t.Fatalf("%q: error %d at %d", text, e, at)
	}
	return tree
}

func mustLink(t *testing.T, libs, client string) link.Image {
	t.Helper()
	m, at, isClient, e := link.Link(mustParse(t, libs), mustParse(t, client))
	if e != api.OK {
		t.Fatalf("%q and %q: error %d at %d, %v", libs, client, e, at, isClient)
	}
	return m
}

func steps(x *Machine, picks ...int) {
	for _, pick := range picks {
		x.Step(pick)
	}
}

// run does steps of the first thread that hasn't ended, so many at most.
func run(x *Machine, most int) {
	for range most {
		x.Step(0)
	}
}

func num(n int64) mem.Value { return mem.Value{Kind: mem.Int, N: n} }

func ptr(block int, n int64) mem.Value { return mem.Value{Kind: mem.Ptr, N: n, Block: block} }

// put writes a value into a cell.
func put(m *mem.Memory, p, v mem.Value) {
	m.Begin(p, true)
	m.End(p, true, v)
}

// someMemory: a block of an Int, a pointer and Poison; one that is gone; one of the Int 0.
func someMemory() *mem.Memory {
	m := mem.New()
	m.Alloc(3)
	m.Alloc(1)
	m.Alloc(1)
	put(m, ptr(1, 0), num(7))
	put(m, ptr(1, 1), ptr(3, 0))
	put(m, ptr(3, 0), num(0))
	m.Free(ptr(2, 0))
	return m
}

// someBlocks is how someMemory is told.
const someBlocks = "[7 *3.0 _](_)[0]"
