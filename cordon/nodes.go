package cordon

import "cordon/api"

// node is what the cluster asks of nodes of every kind. What Take and Tick
// answer is what the node sends.
type node interface {
	Take(m api.Msg) []api.Msg
	Tick() []api.Msg
	Crash()
	Restart()
}

// The states of a node.
const (
	up = iota
	down
)

// station is a node with what is the same for nodes of all kinds.
type station struct {
	number int
	state  int
	node   node
}

// play is a node's part of a Round: it takes in what is for it, and ticks.
// Whatever is sent goes into a bag of its own, for other nodes play at the same time.
func (s *station) play(arrived []api.Msg, sent *bag) {
	if s.state != up {
		return
	}
	for m := range framesFor(s.number, arrived) {
		sent.send(s.node.Take(m)...)
	}
	sent.send(s.node.Tick()...)
}
