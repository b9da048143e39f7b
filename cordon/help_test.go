package cordon

import (
	"fmt"
	"reflect"
	"slices"
	"testing"

	"cordon/api"
	"cordon/wire"
)

func put(client, seq, key, value int) api.Entry {
	return api.Entry{Client: client, Seq: seq, Kind: api.Put, Key: key, Value: value}
}

func get(client, seq, key int) api.Entry {
	return api.Entry{Client: client, Seq: seq, Kind: api.Get, Key: key}
}

func open(t *testing.T, replicas int) *Cluster {
	t.Helper()
	c, e := New(api.Config{Replicas: replicas})
	if c == nil || e != api.OK {
		t.Fatalf("P5: New of %d replicas: %d", replicas, e)
	}
	return c
}

func check(t *testing.T, what string, got, want api.Errno) {
	t.Helper()
	if got != want {
		t.Errorf("%s: %d, want %d", what, got, want)
	}
}

// picture is all that a cluster tells of itself.
type picture struct {
	Bag     []string
	Status  []api.Status
	Ballots []api.Ballots
	Answers []api.Answer
}

// String tells the frames as messages: their bytes are no text.
func (p picture) String() string {
	return fmt.Sprintf("bag %+v, replicas %+v, acceptors %+v, answers %+v", read(p.Bag), p.Status, p.Ballots, p.Answers)
}

func look(c *Cluster) picture {
	p := picture{Bag: c.Bag(), Answers: c.Answers()}
	for replica := range api.MaxReplicas {
		if s, e := c.Status(replica); e == api.OK {
			p.Status = append(p.Status, s)
		}
	}
	for i := range api.Acceptors {
		b, _ := c.Ballots(api.Acceptor + i)
		p.Ballots = append(p.Ballots, b)
	}
	return p
}

// same takes no list for the same as an empty one.
func same(a, b picture) bool {
	sameStatus := func(a, b api.Status) bool {
		lists := slices.Equal(a.Members, b.Members) && slices.Equal(a.Log, b.Log)
		a.Members, a.Log, b.Members, b.Log = nil, nil, nil, nil
		return lists && reflect.DeepEqual(a, b)
	}
	sameBallots := func(a, b api.Ballots) bool {
		return a.Up == b.Up && a.Epoch == b.Epoch && slices.Equal(a.Members, b.Members)
	}
	return slices.Equal(a.Bag, b.Bag) && slices.Equal(a.Answers, b.Answers) &&
		slices.EqualFunc(a.Status, b.Status, sameStatus) && slices.EqualFunc(a.Ballots, b.Ballots, sameBallots)
}

// checkRefused asks for the error, and that the cluster is as it was.
func checkRefused(t *testing.T, c *Cluster, what string, want api.Errno, step func() api.Errno) {
	t.Helper()
	before := look(c)
	check(t, what, step(), want)
	if after := look(c); !same(before, after) {
		t.Errorf("P1: %s: an error changed %+v into %+v", what, before, after)
	}
}

// checkBag asks that these messages are on their way, to the byte.
func checkBag(t *testing.T, what string, c *Cluster, want ...api.Msg) {
	t.Helper()
	var frames []string
	for _, m := range want {
		s, e := wire.Encode(m)
		if e != api.OK {
			t.Fatalf("%s: %+v has no bytes", what, m)
		}
		frames = append(frames, s)
	}
	if got := c.Bag(); !slices.Equal(got, frames) {
		t.Errorf("%s: on their way are %+v, want %+v", what, read(got), want)
	}
}

func read(frames []string) []api.Msg {
	var list []api.Msg
	for _, s := range frames {
		m, _ := wire.Decode(s)
		list = append(list, m)
	}
	return list
}

func request(from, to int, e api.Entry) api.Msg {
	return api.Msg{Kind: api.Request, From: from, To: to, Log: []api.Entry{e}}
}

func forward(from, to, pos int, e api.Entry) api.Msg {
	return api.Msg{Kind: api.Forward, From: from, To: to, Pos: pos, Log: []api.Entry{e}}
}

func ack(from, to, pos int) api.Msg {
	return api.Msg{Kind: api.Ack, From: from, To: to, Pos: pos}
}

func reply(from, client, seq, value int) api.Msg {
	return api.Msg{Kind: api.Reply, From: from, To: 300 + client, Pos: seq, Value: value}
}

// checkReplica asks for the commit of a replica, and what its log is.
func checkReplica(t *testing.T, what string, c *Cluster, replica, commit int, log ...api.Entry) {
	t.Helper()
	s, e := c.Status(replica)
	if e != api.OK || s.Commit != commit || !slices.Equal(s.Log, log) {
		t.Errorf("%s: replica %d is %+v, %d, want commit %d, log %+v", what, replica, s, e, commit, log)
	}
}

func checkAnswers(t *testing.T, what string, c *Cluster, want ...api.Answer) {
	t.Helper()
	if got := c.Answers(); !slices.Equal(got, want) {
		t.Errorf("%s: told was %+v, want %+v", what, got, want)
	}
}

// lay puts bytes on their way that nobody may have sent.
func lay(c *Cluster, bytes ...string) {
	for _, s := range bytes {
		c.bag.put(frame{bytes: s})
	}
}

// deliver lets so many of the first frames arrive.
func deliver(t *testing.T, c *Cluster, n int) {
	t.Helper()
	for range n {
		check(t, "P7: Deliver(0)", c.Deliver(0), api.OK)
	}
}

// drain lets frames arrive till there is none.
func drain(t *testing.T, c *Cluster) {
	t.Helper()
	for range 5000 {
		if len(c.Bag()) == 0 {
			return
		}
		deliver(t, c, 1)
	}
	t.Fatal("frames do not come to an end")
}

// ask asks the replica and lets all frames arrive.
func ask(t *testing.T, c *Cluster, replica int, e api.Entry) {
	t.Helper()
	check(t, "P6: Ask", c.Ask(replica, e), api.OK)
	drain(t, c)
}
