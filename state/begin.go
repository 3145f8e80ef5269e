package state

import (
	"slices"

	"lychgate/code"
	"lychgate/link"
	"lychgate/mem"
)

// begin: a machine at the beginning of the code with that number; none without such a code, or without a memory.
func begin(m link.Image, at int, memory *mem.Memory, args []mem.Value) *Machine {
	if at < 0 || at >= len(m.Codes) || memory == nil {
		return nil
	}
	x := &Machine{image: copied(m), memory: memory}
	x.start(x.enter(at, args, ""))
	return x
}

// copied: the image with lists of its own, as the machine is there longer than the call that the image was handed in to.
func copied(m link.Image) link.Image {
	m.Codes = slices.Clone(m.Codes)
	for number := range m.Codes {
		c := &m.Codes[number]
		c.Params = slices.Clone(c.Params)
		c.List = copiedList(c.List)
	}
	return m
}

func copiedList(list []code.Instr) []code.Instr {
	out := slices.Clone(list)
	for at := range out {
		out[at].Args = slices.Clone(out[at].Args)
	}
	return out
}

// start puts a thread with this one frame behind the others.
func (x *Machine) start(f *Frame) {
	x.threads = append(x.threads, &thread{frames: []*Frame{f}})
}

// enter: a frame at the beginning of a code, whose parameters get these values; poison, where there are fewer.
func (x *Machine) enter(number int, values []mem.Value, into string) *Frame {
	f := &Frame{Code: number, Into: into}
	for i, name := range x.image.Codes[number].Params {
		var v mem.Value
		if i < len(values) {
			v = values[i]
		}
		f.set(name, v)
	}
	return f
}
