package cordon

import (
	"slices"

	"cordon/api"
	"cordon/wire"
)

// bag is the frames that are on their way.
type bag struct {
	frames []frame
}

// send puts messages on their way, the first one first.
func (b *bag) send(list ...api.Msg) {
	for _, m := range list {
		if bytes, e := wire.Encode(m); e == api.OK {
			b.put(frame{bytes: bytes})
		}
	}
}

// put loses the frames for which there is no room.
func (b *bag) put(list ...frame) {
	room := api.MaxBag - len(b.frames)
	b.frames = append(b.frames, list[:min(len(list), room)]...)
}

func (b *bag) has(i int) bool {
	return i >= 0 && i < len(b.frames)
}

func (b *bag) take(i int) frame {
	f := b.frames[i]
	b.frames = slices.Delete(b.frames, i, i+1)
	return f
}

func (b *bag) takeAll() []frame {
	all := b.frames
	b.frames = nil
	return all
}

func (b *bag) double(i int) {
	b.put(b.frames[i])
}

func (b *bag) maySpoil(i int) bool {
	return b.has(i) && !b.frames[i].spoiled
}

func (b *bag) spoil(i int, bits []int) {
	b.frames[i] = b.frames[i].spoil(bits)
}

func (b *bag) list() []string {
	list := make([]string, len(b.frames))
	for i, f := range b.frames {
		list[i] = f.bytes
	}
	return list
}
