package cordon

import (
	"sync"

	"cordon/acceptor"
	"cordon/api"
	"cordon/master"
	"cordon/members"
	"cordon/replica"
	"cordon/wire"
)

func newCluster(replicas int) *Cluster {
	c := &Cluster{}
	all := members.Numbers(0, replicas)
	for _, number := range all {
		r := replica.New(number, all)
		c.replicas = append(c.replicas, r)
		c.add(number, r)
	}
	for _, number := range members.Numbers(api.Acceptor, api.Acceptors) {
		a := acceptor.New(number, all)
		c.acceptors = append(c.acceptors, a)
		c.add(number, a)
	}
	for _, number := range members.Numbers(api.Master, api.Masters) {
		m := master.New(number)
		c.masters = append(c.masters, m)
		c.add(number, m)
	}
	return c
}

func (c *Cluster) add(number int, n node) {
	c.stations = append(c.stations, station{number: number, state: up, node: n})
}

// find answers nil, if there is no such node.
func (c *Cluster) find(number int) *station {
	for i := range c.stations {
		if c.stations[i].number == number {
			return &c.stations[i]
		}
	}
	return nil
}

// findIn finds a node for a step that only a node in this state can take.
func (c *Cluster) findIn(state, number int) (*station, api.Errno) {
	s := c.find(number)
	switch {
	case s == nil:
		return nil, api.ErrNode
	case s.state != state:
		return nil, api.ErrState
	}
	return s, api.OK
}

func (c *Cluster) isUp(number int) bool {
	_, e := c.findIn(up, number)
	return e == api.OK
}

// pick finds a node in the list of its kind, of which the first one has the number first.
func pick[T any](list []T, first, number int) (T, bool) {
	if number < first || number >= first+len(list) {
		var none T
		return none, false
	}
	return list[number-first], true
}

func (c *Cluster) areMembers(list []int) bool {
	return members.AreMembers(list, len(c.replicas))
}

// arrive lets a frame that has left the bag reach whom it is to.
func (c *Cluster) arrive(f frame) {
	m, e := wire.Decode(f.bytes)
	if e != api.OK {
		return
	}
	if s, e := c.findIn(up, m.To); e == api.OK {
		c.bag.send(s.node.Take(m)...)
	}
	c.tell(m)
}

// tell lets a client hear what is a Reply to it.
func (c *Cluster) tell(m api.Msg) {
	if m.Kind == api.Reply && isClient(m.To) {
		c.told = append(c.told, api.Answer{Client: m.To - api.Client, Seq: m.Pos, Value: m.Value})
	}
}

func isClient(number int) bool {
	return number >= api.Client && number <= api.Client+api.MaxClient
}

// playAll lets all nodes play at once, each in a goroutine that touches its
// own node and its own bag alone: however these run, what each one sends is
// the same, and the order of the bags is that of the nodes.
func (c *Cluster) playAll(arrived []api.Msg) []bag {
	sent := make([]bag, len(c.stations))
	var playing sync.WaitGroup
	playing.Add(len(c.stations))
	for i := range c.stations {
		go func() {
			defer playing.Done()
			c.stations[i].play(arrived, &sent[i])
		}()
	}
	playing.Wait()
	return sent
}
