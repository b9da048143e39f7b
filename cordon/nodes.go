package cordon

import "cordon/api"

// node is what the cluster asks of nodes of every kind. What Take and Tick
// answer is what the node sends.
type node interface {
	Take(m api.Msg) []api.Msg
	Tick() []api.Msg
	Crash()
	Restart()
}

// The states of a node.
const (
	up = iota
	down
)

// station is a node with what is the same for nodes of all kinds.
type station struct {
	number int
	state  int
	node   node
}
