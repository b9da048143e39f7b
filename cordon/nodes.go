package cordon

import (
	"slices"

	"cordon/api"
)

// node is what the cluster asks of nodes of every kind. What Take and Tick
// answer is what the node sends.
type node interface {
	Take(m api.Msg) []api.Msg
	Tick() []api.Msg
	Crash()
	Restart()
}

// The states of a node.
const (
	up = iota
	down
)

// station is a node with what is the same for nodes of all kinds.
type station struct {
	number int
	state  int
	node   node
}

// still is a node that takes nothing in, sends nothing, and keeps what it has.
type still struct{}

func (still) Take(api.Msg) []api.Msg { return nil }
func (still) Tick() []api.Msg        { return nil }
func (still) Crash()                 {}
func (still) Restart()               {}

// acceptor is a register.
type acceptor struct {
	still
	epoch   int
	members []int
}

// ballots tells all but whether the acceptor is up.
func (a *acceptor) ballots() api.Ballots {
	return api.Ballots{Epoch: a.epoch, Members: slices.Clone(a.members)}
}
