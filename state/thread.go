package state

import (
	"slices"

	"lychgate/mem"
)

// thread is a thread as it is kept. While it is busy with a read or a write, p is the cell, and v what is to be written.
type thread struct {
	frames []*Frame
	busy   bool
	p, v   mem.Value
}

func (t *thread) last() *Frame { return t.frames[len(t.frames)-1] }

func (t *thread) push(f *Frame) { t.frames = append(t.frames, f) }

func (t *thread) pop() { t.frames = t.frames[:len(t.frames)-1] }

func (t *thread) told() Thread {
	frames := make([]Frame, len(t.frames))
	for i, f := range t.frames {
		frames[i] = *f
		frames[i].Vars = slices.Clone(f.Vars)
	}
	return Thread{Frames: frames, Busy: t.busy, P: t.p, V: t.v}
}
