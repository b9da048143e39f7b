package cordon

import (
	"slices"

	"cordon/api"
	"cordon/wire"
)

// bag is the frames that are on their way.
type bag struct {
	frames []string
}

// send puts messages on their way, the first one first.
func (b *bag) send(list ...api.Msg) {
	for _, m := range list {
		if frame, e := wire.Encode(m); e == api.OK {
			b.put(frame)
		}
	}
}

// put loses the frame, if there are as many as may be.
func (b *bag) put(frame string) {
	if len(b.frames) < api.MaxBag {
		b.frames = append(b.frames, frame)
	}
}

func (b *bag) has(i int) bool {
	return i >= 0 && i < len(b.frames)
}

func (b *bag) take(i int) string {
	frame := b.frames[i]
	b.frames = slices.Delete(b.frames, i, i+1)
	return frame
}

func (b *bag) double(i int) {
	b.put(b.frames[i])
}

func (b *bag) list() []string {
	return slices.Clone(b.frames)
}
