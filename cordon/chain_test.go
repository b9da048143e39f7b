package cordon

import (
	"math/rand"
	"slices"
	"testing"

	"cordon/api"
)

// TestExamples: examples 2 and 3.
func TestExamples(t *testing.T) {
	c := open(t, 3)
	e := put(0, 0, 5, 7)
	answer := api.Answer{Client: 0, Seq: 0, Value: -1}
	c.Ask(0, e)
	checkBag(t, "Example 2", c, request(300, 0, e))
	deliver(t, c, 1)
	checkBag(t, "Example 2", c, forward(0, 1, 0, e))
	deliver(t, c, 1)
	checkBag(t, "Example 2", c, forward(1, 2, 0, e))
	deliver(t, c, 1)
	checkBag(t, "Example 2", c, reply(2, 0, 0, -1), ack(2, 1, 1))
	checkAnswers(t, "Example 2", c)
	deliver(t, c, 1)
	checkAnswers(t, "Example 2", c, answer)
	checkReplica(t, "Example 2", c, 1, 0, e)
	deliver(t, c, 1)
	checkReplica(t, "Example 2", c, 1, 1, e)
	checkBag(t, "Example 2", c, ack(1, 0, 1))
	checkReplica(t, "Example 2", c, 0, 0, e)
	deliver(t, c, 1)
	checkReplica(t, "Example 2", c, 0, 1, e)
	checkBag(t, "Example 2", c)
	c.Ask(0, e)
	deliver(t, c, 1)
	checkBag(t, "Example 3", c, reply(0, 0, 0, -1))
	deliver(t, c, 1)
	checkAnswers(t, "Example 3", c, answer, answer)
}

// TestAlone: one replica is head and tail.
func TestAlone(t *testing.T) {
	c := open(t, 1)
	ask(t, c, 0, get(3, 1, 2))
	c.Ask(0, put(0, 0, 2, 6))
	deliver(t, c, 1)
	checkBag(t, "P13: there is none to tell of it", c, reply(0, 0, 0, -1))
	drain(t, c)
	ask(t, c, 0, get(3, 2, 2))
	checkReplica(t, "P13: alone", c, 0, 3, get(3, 1, 2), put(0, 0, 2, 6), get(3, 2, 2))
	checkAnswers(t, "P13: alone", c, api.Answer{Client: 3, Seq: 1, Value: -1}, api.Answer{Client: 0, Seq: 0, Value: -1}, api.Answer{Client: 3, Seq: 2, Value: 6})
	c.Tick(0)
	checkBag(t, "P13: Tick of one alone", c)
	c.Crash(0)
	c.Restart(0)
	ask(t, c, 0, put(0, 0, 2, 6))
	if l := c.Answers(); len(l) != 4 || l[3] != (api.Answer{Client: 0, Seq: 0, Value: -1}) {
		t.Errorf("P8, P12: behind Crash and Restart: %+v", l)
	}
}

// TestLongest: five replicas, a log of 24 entries, asked of all replicas in turn.
func TestLongest(t *testing.T) {
	c := open(t, 5)
	var log []api.Entry
	for i := range 26 {
		log = append(log, put(i%4, i, 3, 100+i))
		ask(t, c, i%5, log[i])
	}
	log = log[:24]
	for replica := range 5 {
		checkReplica(t, "P12: a full log", c, replica, 24, log...)
	}
	var want []api.Answer
	for i := range 24 {
		want = append(want, api.Answer{Client: i % 4, Seq: i, Value: max(99+i, 100)})
	}
	want[0].Value = -1
	checkAnswers(t, "P12: a full log", c, want...)
	for replica := range 5 {
		ask(t, c, replica, log[23])
		want = append(want, want[23])
	}
	checkAnswers(t, "P12: the same again, with a full log", c, want...)
}

func TestSameRequest(t *testing.T) {
	c := open(t, 2)
	e := put(1, 5, 0, 1)
	c.Ask(0, e)
	c.Double(0)
	deliver(t, c, 2)
	checkBag(t, "P12: the same, ahead of its commit", c, forward(0, 1, 0, e))
	drain(t, c)
	ask(t, c, 1, e)
	again := api.Answer{Client: 1, Seq: 5, Value: -1}
	checkAnswers(t, "P12: the same, behind its commit", c, again, again)
	ask(t, c, 0, put(1, 4, 0, 2))
	ask(t, c, 0, put(2, 4, 0, 2))
	checkAnswers(t, "P12: a smaller Seq, of this client and of another", c, again, again, api.Answer{Client: 2, Seq: 4, Value: 1})
	checkReplica(t, "P12: the log", c, 0, 2, e, put(2, 4, 0, 2))
}

// TestOutOfOrder: Forwards and Acks that come late, twice, and turned round.
func TestOutOfOrder(t *testing.T) {
	c := open(t, 2)
	a, b := put(0, 0, 1, 1), put(0, 1, 1, 2)
	c.Ask(0, a)
	c.Ask(0, b)
	deliver(t, c, 2)
	c.Double(0)
	checkBag(t, "P13: Forwards", c, forward(0, 1, 0, a), forward(0, 1, 1, b), forward(0, 1, 0, a))
	c.Deliver(1)
	checkReplica(t, "P13: the second one comes first", c, 1, 0)
	c.Deliver(0)
	checkReplica(t, "P13: the first one", c, 1, 1, a)
	c.Deliver(0)
	checkBag(t, "P13: the first one twice", c, reply(1, 0, 0, -1), ack(1, 0, 1), ack(1, 0, 1))
	c.Deliver(0)
	c.Tick(0)
	c.Deliver(3)
	checkBag(t, "P13: the second one again", c, ack(1, 0, 1), ack(1, 0, 1), forward(0, 1, 0, a), reply(1, 0, 1, 1), ack(1, 0, 2))
	c.Deliver(4)
	checkReplica(t, "P13: the last Ack comes first", c, 0, 2, a, b)
	drain(t, c)
	checkReplica(t, "P13: Acks that come late", c, 0, 2, a, b)
	checkAnswers(t, "P13: no answer twice", c, api.Answer{Client: 0, Seq: 0, Value: -1}, api.Answer{Client: 0, Seq: 1, Value: 1})
}

// TestTicks: what was lost comes again.
func TestTicks(t *testing.T) {
	c := open(t, 3)
	a, b := put(0, 0, 1, 1), put(0, 1, 1, 2)
	c.Ask(0, a)
	c.Ask(0, b)
	deliver(t, c, 2)
	c.Drop(0)
	c.Drop(0)
	c.Tick(0)
	checkBag(t, "P13: Tick of the head", c, forward(0, 1, 0, a), forward(0, 1, 1, b))
	deliver(t, c, 3)
	for len(c.Bag()) > 0 {
		c.Drop(0)
	}
	c.Tick(1)
	checkBag(t, "P13: Tick of one between", c, forward(1, 2, 0, a), forward(1, 2, 1, b))
	deliver(t, c, 2)
	for len(c.Bag()) > 0 {
		c.Drop(0)
	}
	c.Tick(2)
	checkBag(t, "P13: Tick of the tail", c, ack(2, 1, 2))
	drain(t, c)
	checkReplica(t, "P13: the tail's Ack goes through", c, 0, 2, a, b)
	c.Tick(0)
	c.Tick(1)
	checkBag(t, "P13: Tick, all committed", c)
}

// play takes one step, whatever it is.
func play(c *Cluster, dice *rand.Rand, replicas int) {
	some := dice.Intn(max(1, len(c.Bag())))
	switch dice.Intn(20) {
	case 0, 1, 2:
		c.Ask(dice.Intn(replicas), api.Entry{Client: dice.Intn(4), Seq: dice.Intn(20), Kind: api.Put, Key: dice.Intn(3), Value: dice.Intn(1000)})
	case 3:
		c.Ask(dice.Intn(replicas), get(dice.Intn(4), dice.Intn(20), dice.Intn(3)))
	case 4, 5, 6:
		c.Tick(dice.Intn(replicas))
	case 7:
		c.Drop(some)
	case 8:
		c.Double(some)
	case 9:
		c.Crash(dice.Intn(replicas))
	case 10, 11:
		c.Restart(dice.Intn(replicas))
	default:
		c.Deliver(some)
	}
}

// checkChain asks what must hold of a chain at every time: each log begins
// the one ahead, and what is committed or answered stands in the tail's log.
func checkChain(t *testing.T, c *Cluster, replicas int) {
	t.Helper()
	tail, _ := c.Status(replicas - 1)
	if tail.Up && tail.Commit != len(tail.Log) {
		t.Fatalf("P8, P13: the tail is %+v", tail)
	}
	ahead, _ := c.Status(0)
	checkOnce(t, ahead.Log)
	for replica := range replicas {
		s, _ := c.Status(replica)
		if len(s.Log) > len(ahead.Log) || !slices.Equal(s.Log, ahead.Log[:len(s.Log)]) {
			t.Fatalf("P13: the log of %d is %+v, ahead of it is %+v", replica, s.Log, ahead.Log)
		}
		if s.Commit > len(tail.Log) || len(s.Log) > 24 || s.Epoch != 0 || s.Seal != 0 {
			t.Fatalf("P13: replica %d is %+v", replica, s)
		}
		ahead = s
	}
	for _, a := range c.Answers() {
		checkAnswer(t, tail.Log, a)
	}
}

func checkOnce(t *testing.T, log []api.Entry) {
	t.Helper()
	last := []int{-1, -1, -1, -1}
	for _, e := range log {
		if e.Seq <= last[e.Client] {
			t.Fatalf("P12: the Seqs of a client do not grow: %+v", log)
		}
		last[e.Client] = e.Seq
	}
}

// checkAnswer works an answer out from the log by itself.
func checkAnswer(t *testing.T, log []api.Entry, a api.Answer) {
	t.Helper()
	values := make([]int, 16)
	for i := range values {
		values[i] = -1
	}
	for _, e := range log {
		if e.Client == a.Client && e.Seq == a.Seq {
			if values[e.Key] != a.Value {
				t.Fatalf("P12: told was %+v, the log is %+v", a, log)
			}
			return
		}
		if e.Kind == api.Put {
			values[e.Key] = e.Value
		}
	}
	t.Fatalf("P13: told was %+v, which is not committed: %+v", a, log)
}

// settle brings all replicas up and ticks till all that can be known is known.
func settle(t *testing.T, c *Cluster, replicas int) {
	t.Helper()
	for replica := range replicas {
		c.Restart(replica)
	}
	drain(t, c)
	for range 2 * replicas {
		for replica := range replicas {
			c.Tick(replica)
			drain(t, c)
		}
	}
}

// TestAnyPlay: frames are lost, doubled and turned round, replicas go down and come up.
func TestAnyPlay(t *testing.T) {
	for seed := range int64(150) {
		dice := rand.New(rand.NewSource(seed))
		replicas := 1 + int(seed)%5
		c := open(t, replicas)
		for range 400 {
			play(c, dice, replicas)
			checkChain(t, c, replicas)
		}
		settle(t, c, replicas)
		head, _ := c.Status(0)
		for replica := range replicas {
			checkReplica(t, "P13: behind all", c, replica, len(head.Log), head.Log...)
		}
	}
}
