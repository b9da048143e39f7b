package cordon

import (
	"runtime"
	"slices"
	"sync"
	"testing"

	"cordon/api"
)

// TestRoundOfNothing: with an empty bag the nodes only tick.
func TestRoundOfNothing(t *testing.T) {
	for replicas := 1; replicas <= 5; replicas++ {
		c := open(t, replicas)
		want := look(c)
		for range 3 {
			c.Round()
			if replicas == 1 {
				checkBag(t, "P9: one alone sends nothing", c)
			} else {
				checkBag(t, "P9: the tail ticks", c, ack(replicas-1, replicas-2, 0))
			}
		}
		dropAll(c)
		if got := look(c); !same(got, want) {
			t.Errorf("P9: Rounds of an empty bag changed %+v into %+v", want, got)
		}
	}
}

// TestRounds: a request goes one node further in each of them, and what is not committed is sent once more by each tick.
func TestRounds(t *testing.T) {
	c := open(t, 3)
	e := put(0, 0, 5, 7)
	c.Ask(0, e)
	c.Round()
	checkBag(t, "P9: the head takes it in, and ticks", c, forward(0, 1, 0, e), forward(0, 1, 0, e), ack(2, 1, 0))
	checkReplica(t, "P9: nobody else has it", c, 1, 0)
	c.Round()
	checkBag(t, "P9: the next one", c, forward(0, 1, 0, e), forward(1, 2, 0, e), forward(1, 2, 0, e), ack(2, 1, 0))
	c.Round()
	checkBag(t, "P9: the tail", c, forward(0, 1, 0, e), forward(1, 2, 0, e), reply(2, 0, 0, -1), ack(2, 1, 1), ack(2, 1, 1), ack(2, 1, 1))
	checkAnswers(t, "P9: the client is not told yet", c)
	c.Round()
	checkBag(t, "P9: Ack", c, forward(0, 1, 0, e), ack(1, 0, 1), ack(2, 1, 1), ack(2, 1, 1))
	checkAnswers(t, "P9: the client is told", c, api.Answer{Client: 0, Seq: 0, Value: -1})
	checkReplica(t, "P9: who took the Ack in", c, 1, 1, e)
	checkReplica(t, "P9: who did not", c, 0, 0, e)
	c.Round()
	checkReplica(t, "P9: the head", c, 0, 1, e)
}

// TestRoundOrder: what was sent stands in the bag in the order of the nodes, whatever the order of the frames for them.
func TestRoundOrder(t *testing.T) {
	c := open(t, 3)
	c.Change(201, []int{1})
	c.Change(200, []int{0})
	dropAll(c)
	a, b, d := put(0, 0, 0, 0), put(1, 0, 0, 1), put(2, 0, 0, 2)
	readOf := func(master, ballot int) api.Msg { return api.Msg{Kind: api.Read, From: master, Ballot: ballot} }
	c.bag.send(toAll(readOf(201, 3), 201, 102)...)
	c.bag.send(request(302, 2, d))
	c.bag.send(toAll(readOf(200, 2), 200, 101)...)
	c.bag.send(request(301, 1, b))
	c.bag.send(toAll(readOf(201, 3), 201, 100)...)
	c.bag.send(request(300, 0, a))
	c.Round()
	register := api.Msg{Kind: api.Register, Members: []int{0, 1, 2}}
	of3, of2 := register, register
	of3.Ballot, of2.Ballot = 3, 2
	want := []api.Msg{forward(0, 1, 0, a), forward(0, 1, 0, a), request(1, 0, b), request(2, 0, d), ack(2, 1, 0)}
	want = append(want, fromAll(of3, 201, 100)...)
	want = append(want, fromAll(of2, 200, 101)...)
	want = append(want, fromAll(of3, 201, 102)...)
	want = append(want, toAll(readOf(200, 2), 200, 100, 101, 102)...)
	want = append(want, toAll(readOf(201, 3), 201, 100, 101, 102)...)
	checkBag(t, "P9: replicas, acceptors, masters, each by their numbers", c, want...)
}

// TestRoundsOfAChange: its first ones frame by frame, then the end.
func TestRoundsOfAChange(t *testing.T) {
	c := open(t, 2)
	e := put(0, 0, 1, 1)
	ask(t, c, 0, e)
	check(t, "P6: Change", c.Change(200, []int{1, 0}), api.OK)
	reads := toAll(api.Msg{Kind: api.Read, Ballot: 2}, 200, 100, 101, 102)
	registers := fromAll(api.Msg{Kind: api.Register, Ballot: 2, Members: []int{0, 1}}, 200, 100, 101, 102)
	seals := toAll(api.Msg{Kind: api.Seal, Epoch: 1, Ballot: 2}, 200, 0, 1)
	sealed := fromAll(api.Msg{Kind: api.Sealed, Epoch: 1, Ballot: 2, Log: []api.Entry{e}}, 200, 0, 1)
	prepares := toAll(api.Msg{Kind: api.Prepare, Epoch: 1, Ballot: 2}, 200, 100, 101, 102)
	tick := []api.Msg{ack(1, 0, 1)}
	c.Round()
	checkBag(t, "P9: it reads", c, slices.Concat(tick, registers, reads)...)
	c.Round()
	checkBag(t, "P9: it seals", c, slices.Concat(tick, registers, seals, seals)...)
	c.Round()
	checkBag(t, "P9: who is sealed does not send Ack", c, sealed[0], sealed[0], sealed[1], sealed[1], seals[0], seals[1])
	c.Round()
	checkBag(t, "P9: it prepares", c, slices.Concat(sealed, prepares, prepares)...)
	for range 10 {
		c.Round()
	}
	checkRegisters(t, "P9: the end of a change", c, 1, 1, 0)
	checkAt(t, "P9: the end of a change", c, 0, 1, 1, 1, 1, 1, 0)
	checkBag(t, "P9: the end of a change", c, api.Msg{Kind: api.Ack, From: 0, To: 1, Epoch: 1, Pos: 1})
}

// TestRoundInOrder: of the frames for one node the first one is taken in first, others between them or not.
func TestRoundInOrder(t *testing.T) {
	c := open(t, 2)
	var log []api.Entry
	for i := range 5 {
		log = append(log, put(0, i, 0, i))
		c.Ask(0, log[i])
		c.bag.send(ack(0, 1, 0), reply(1, 3, i, 0))
	}
	c.Round()
	checkReplica(t, "P9: in their order", c, 0, 0, log...)
	c = open(t, 2)
	for i := range 5 {
		c.Ask(0, log[4-i])
	}
	c.Round()
	checkReplica(t, "P9: the greatest Seq first", c, 0, 0, log[4])
}

// TestRoundOfDownNodes: what is for them is lost, and they do not tick; all others do.
func TestRoundOfDownNodes(t *testing.T) {
	c := open(t, 3)
	a, b := put(0, 0, 1, 1), put(1, 0, 1, 2)
	c.Ask(0, a)
	deliver(t, c, 1)
	dropAll(c)
	for _, master := range []int{200, 201} {
		c.Change(master, []int{0})
	}
	c.Ask(0, b)
	for _, node := range []int{0, 101, 200} {
		c.Crash(node)
	}
	c.Round()
	registers := slices.Concat(fromAll(api.Msg{Kind: api.Register, Ballot: 2, Members: []int{0, 1, 2}}, 200, 100, 102),
		fromAll(api.Msg{Kind: api.Register, Ballot: 3, Members: []int{0, 1, 2}}, 201, 100, 102))
	checkBag(t, "P9: who is up", c, slices.Concat([]api.Msg{ack(2, 1, 0), registers[0], registers[2], registers[1], registers[3]},
		toAll(api.Msg{Kind: api.Read, Ballot: 3}, 201, 100, 101, 102))...)
	checkReplica(t, "P9: what is for one that is down", c, 0, 0, a)
	dropAll(c)
	for _, node := range []int{0, 101, 200} {
		c.Restart(node)
	}
	c.Crash(2)
	c.Round()
	checkBag(t, "P9: up again", c, append([]api.Msg{forward(0, 1, 0, a)}, toAll(api.Msg{Kind: api.Read, Ballot: 3}, 201, 100, 101, 102)...)...)
	for _, node := range []int{0, 1, 100, 101, 102, 200, 201} {
		c.Crash(node)
	}
	c.Ask(1, b)
	c.Round()
	checkBag(t, "P9: all are down", c)
}

// TestRoundOfStrayFrames: what is for no node, for clients without being a Reply, or cannot be read.
func TestRoundOfStrayFrames(t *testing.T) {
	c := open(t, 1)
	before := look(c)
	for _, to := range []int{-1, 1, 5, 99, 103, 199, 202, 299, 300, 303, 304, 65534} {
		for kind := 1; kind <= 16; kind++ {
			if kind != api.Reply || to < 300 || to > 303 {
				c.bag.send(api.Msg{Kind: kind, From: 0, To: to, Epoch: 1, Log: []api.Entry{put(0, 0, 0, 0)}})
			}
		}
		lay(c, "no frame", "")
		c.Round()
		checkBag(t, "P9: they are lost", c)
	}
	for _, node := range nodesOf(1) {
		c.bag.send(api.Msg{Kind: api.Reply, From: 0, To: node, Pos: 1, Value: 1})
	}
	c.Round()
	if after := look(c); !same(before, after) {
		t.Errorf("P9: frames that are lost changed %+v into %+v", before, after)
	}
}

// TestRoundTells: clients are told in the order of the bag, whoever they are, whoever sent it.
func TestRoundTells(t *testing.T) {
	c := open(t, 2)
	var want []api.Answer
	for i, client := range []int{3, 0, 2, 0, 1, 3, 3, 0} {
		c.bag.send(reply(i%2, client, 10-i, 5*i-1), ack(1, 0, 0))
		want = append(want, api.Answer{Client: client, Seq: 10 - i, Value: 5*i - 1})
	}
	c.Crash(0)
	c.Round()
	checkAnswers(t, "P9: in the order of the bag", c, want...)
	c.bag.send(reply(0, 1, 1, 1))
	c.Round()
	checkAnswers(t, "P9: behind what was told before", c, append(want, api.Answer{Client: 1, Seq: 1, Value: 1})...)
}

// TestRoundOfAFullBag: all 200 frames leave it, and there is room for 200.
func TestRoundOfAFullBag(t *testing.T) {
	c := open(t, 2)
	list := askSome(c, 200)
	c.Round()
	var want []api.Msg
	for range 2 {
		for i := range 24 {
			want = append(want, forward(0, 1, i, list[i].Log[0]))
		}
	}
	checkBag(t, "P9: a full log's worth, twice", c, append(want, ack(1, 0, 0))...)
	c = open(t, 2)
	want = nil
	for i := range 200 {
		c.Ask(1, list[i].Log[0])
		want = append(want, request(1, 0, list[i].Log[0]))
	}
	c.Round()
	checkBag(t, "P9: 200 are sent on, and there is no room for the tick", c, want...)
}

// TestRoundThatSendsTooMuch: what has no room is lost from the end of the order of the nodes.
func TestRoundThatSendsTooMuch(t *testing.T) {
	c := open(t, 3)
	a, b := put(0, 0, 1, 1), put(0, 1, 1, 2)
	c.Ask(0, a)
	deliver(t, c, 1)
	c.Change(200, []int{0})
	dropAll(c)
	late := put(2, 2, 2, 2)
	for range 98 {
		c.Ask(2, b)
	}
	for range 101 {
		c.Ask(1, late)
	}
	c.bag.send(toAll(api.Msg{Kind: api.Read, Ballot: 2}, 200, 100)...)
	c.Round()
	want := []api.Msg{forward(0, 1, 0, a)}
	for range 101 {
		want = append(want, request(1, 0, late))
	}
	for range 98 {
		want = append(want, request(2, 0, b))
	}
	checkBag(t, "P9: Words: 200 frames, and the tick of 2, an acceptor's answer and a master's tick are lost", c, want...)
	dropAll(c)
	c.Round()
	checkBag(t, "P9: what was lost is done still", c, append([]api.Msg{forward(0, 1, 0, a), ack(2, 1, 0)},
		toAll(api.Msg{Kind: api.Read, Ballot: 2}, 200, 100, 101, 102)...)...)
}

// slowRound is a Round by one node after the other.
func slowRound(c *Cluster, replicas int) {
	frames := c.bag.takeAll()
	messages := read(bytesOf(frames))
	for _, node := range nodesOf(replicas) {
		for i, m := range messages {
			if m.Kind != 0 && m.To == node {
				c.arrive(frames[i])
			}
		}
		c.Tick(node)
	}
	for i, m := range messages {
		if m.Kind == api.Reply && !slices.Contains(nodesOf(replicas), m.To) {
			c.arrive(frames[i])
		}
	}
}

func bytesOf(frames []frame) []string {
	var list []string
	for _, f := range frames {
		list = append(list, f.bytes)
	}
	return list
}

// TestRoundIsAsSteps: a Round does what Deliver and Tick do, node by node, in any play.
func TestRoundIsAsSteps(t *testing.T) {
	for seed := range int64(120) {
		replicas := 1 + int(seed)%5
		fast, slow := newGame(t, seed, replicas), newGame(t, seed, replicas)
		slow.round = func(c *Cluster) { slowRound(c, replicas) }
		for step := range 400 {
			fast.step()
			slow.step()
			if a, b := look(fast.c), look(slow.c); !same(a, b) {
				t.Fatalf("P9: seed %d, step %d: %+v, want %+v", seed, step, a, b)
			}
		}
	}
}

// TestRoundIsTheSameAlways: with few threads and many, again and again.
func TestRoundIsTheSameAlways(t *testing.T) {
	threads := runtime.GOMAXPROCS(0)
	defer runtime.GOMAXPROCS(threads)
	for seed := range int64(10) {
		var want picture
		for try := range 12 {
			runtime.GOMAXPROCS(1 + try)
			g := newGame(t, seed, 5)
			for range 300 {
				g.step()
			}
			for range 5 {
				g.c.Round()
			}
			got := look(g.c)
			if try == 0 {
				want = got
			}
			if !same(got, want) {
				t.Fatalf("P9: the same steps led to %+v and to %+v", want, got)
			}
		}
	}
}

// meeting is a node that ticks only when all others do too.
type meeting struct {
	all *sync.WaitGroup
}

func (m meeting) Take(api.Msg) []api.Msg { return nil }
func (m meeting) Crash()                 {}
func (m meeting) Restart()               {}

func (m meeting) Tick() []api.Msg {
	m.all.Done()
	m.all.Wait()
	return nil
}

// TestAllAtOnce: nodes that wait for one another come to an end, as each has a goroutine of its own.
func TestAllAtOnce(t *testing.T) {
	c := open(t, 5)
	var all sync.WaitGroup
	all.Add(len(c.stations))
	for i := range c.stations {
		c.stations[i].node = meeting{&all}
	}
	c.Round()
}

// TestNoGoroutineIsLeft: when a Round answers, its goroutines have ended.
func TestNoGoroutineIsLeft(t *testing.T) {
	c := open(t, 5)
	before := runtime.NumGoroutine()
	for range 100 {
		c.Round()
	}
	for range 1000 {
		if runtime.NumGoroutine() <= before {
			return
		}
		runtime.Gosched()
	}
	t.Errorf("Ways: there were %d goroutines, behind Rounds %d", before, runtime.NumGoroutine())
}

// TestFramesForANode: the iterator ends when nobody wants more.
func TestFramesForANode(t *testing.T) {
	all := []api.Msg{ack(0, 1, 1), ack(0, 2, 2), ack(0, 1, 3), ack(0, 1, 4)}
	for wanted := range 5 {
		var got []int
		for m := range framesFor(1, all) {
			got = append(got, m.Pos)
			if len(got) >= wanted {
				break
			}
		}
		if want := []int{1, 3, 4}[:min(3, max(1, wanted))]; !slices.Equal(got, want) {
			t.Errorf("Ways: frames for 1, %d of them: %v, want %v", wanted, got, want)
		}
	}
	for m := range framesFor(3, all) {
		t.Errorf("Ways: a frame for 3: %+v", m)
	}
}
