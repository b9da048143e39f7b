package cordon

import (
	"iter"

	"cordon/api"
	"cordon/wire"
)

// maxTurned is how many bits of a frame may be turned: the sum tells so many for sure.
const maxTurned = 3

const bitsOfByte = 8

// frame is the bytes of a message. It is spoiled at most once, with all that
// was doubled from it since: if more bits were turned, the sum might fit again.
type frame struct {
	bytes   string
	spoiled bool
}

// spoil is the frame with these bits turned, of which only the first ones count.
func (f frame) spoil(bits []int) frame {
	bytes := []byte(f.bytes)
	for _, number := range bits[:min(len(bits), maxTurned)] {
		bit := countRound(number, bitsOfByte*len(bytes))
		bytes[bit/bitsOfByte] ^= 1 << (bit % bitsOfByte)
	}
	return frame{bytes: string(bytes), spoiled: true}
}

// countRound brings any number into 0 to count - 1.
func countRound(number, count int) int {
	return (number%count + count) % count
}

// readAll is what those frames say that can be read, in their order.
func readAll(frames []frame) []api.Msg {
	var list []api.Msg
	for _, f := range frames {
		if m, e := wire.Decode(f.bytes); e == api.OK {
			list = append(list, m)
		}
	}
	return list
}

// framesFor ranges over those of the frames that are for a node, in their order.
func framesFor(number int, all []api.Msg) iter.Seq[api.Msg] {
	return func(yield func(api.Msg) bool) {
		for _, m := range all {
			if m.To == number && !yield(m) {
				return
			}
		}
	}
}
