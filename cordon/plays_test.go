package cordon

import (
	"math/rand"
	"slices"
	"sync"
	"testing"

	"cordon/api"
)

// requestID is what tells one request from others.
type requestID struct{ client, seq int }

// history is what was committed at any time: at each place the entry, and the
// least epoch in which a replica had committed it; and of each request how
// many places were answered up to then when it was asked for the first time.
type history struct {
	log    []api.Entry
	epochs []int
	asked  map[requestID]int
}

// noteAsk is called ahead of the asking.
func (h *history) noteAsk(c *Cluster, e api.Entry) {
	id := requestID{e.Client, e.Seq}
	if _, ok := h.asked[id]; !ok {
		h.asked[id] = h.answered(c)
	}
}

// answered is how many places there are up to the last one that was answered.
func (h *history) answered(c *Cluster) int {
	told := c.Answers()
	for place := len(h.log) - 1; place >= 0; place-- {
		isIt := func(a api.Answer) bool { return a.Client == h.log[place].Client && a.Seq == h.log[place].Seq }
		if slices.ContainsFunc(told, isIt) {
			return place + 1
		}
	}
	return 0
}

// note asks for agreement, that nothing is lost, that nothing is committed
// twice, and that answers are those of one log that only grows (P15).
func (h *history) note(t *testing.T, c *Cluster, replicas int) {
	t.Helper()
	for replica := range replicas {
		s, _ := c.Status(replica)
		if s.Commit > len(s.Log) || len(s.Log) > 24 {
			t.Fatalf("P10: replica %d is %+v", replica, s)
		}
		for place, e := range s.Log[:s.Commit] {
			h.noteCommit(t, place, e, s.Epoch)
		}
	}
	for replica := range replicas {
		s, _ := c.Status(replica)
		for place, e := range h.log {
			if s.Epoch > h.epochs[place] && (place >= len(s.Log) || s.Log[place] != e) {
				t.Fatalf("P15: lost is %+v at %d, committed in the epoch %d: replica %d is %+v", e, place, h.epochs[place], replica, s)
			}
		}
	}
	checkOnce(t, h.log)
	for _, a := range c.Answers() {
		checkAnswer(t, h.log, a)
	}
}

func (h *history) noteCommit(t *testing.T, place int, e api.Entry, epoch int) {
	t.Helper()
	if place == len(h.log) {
		h.log = append(h.log, e)
		h.epochs = append(h.epochs, epoch)
		if least, ok := h.asked[requestID{e.Client, e.Seq}]; !ok || place < least {
			t.Fatalf("P15: committed at %d is %+v, which was asked (%v) behind an answer of place %d", place, e, ok, least-1)
		}
	}
	if h.log[place] != e {
		t.Fatalf("P15: committed at %d are %+v and %+v", place, h.log[place], e)
	}
	h.epochs[place] = min(h.epochs[place], epoch)
}

// game is a play of one cluster by dice.
type game struct {
	t         *testing.T
	c         *Cluster
	dice      *rand.Rand
	replicas  int
	begun     [2]int // how often each master began
	past      history
	round     func(*Cluster)
	mayChange bool // whether Change is one of the steps
	steps     int  // how many were taken
}

func newGame(t *testing.T, seed int64, replicas int) *game {
	t.Helper()
	return &game{
		t:         t,
		c:         open(t, replicas),
		dice:      rand.New(rand.NewSource(seed)),
		replicas:  replicas,
		past:      history{asked: map[requestID]int{}},
		round:     (*Cluster).Round,
		mayChange: true,
	}
}

func (g *game) someMembers() []int {
	return g.dice.Perm(g.replicas)[:1+g.dice.Intn(g.replicas)]
}

// wanted are some members, seldom a list that is none.
func (g *game) wanted() []int {
	if g.dice.Intn(20) == 0 {
		return []int{0, g.dice.Intn(9), 0}
	}
	return g.someMembers()
}

// node is any, seldom one that is none.
func (g *game) node() int {
	nodes := append(nodesOf(g.replicas), -1, g.replicas, 103, 300)
	return nodes[g.dice.Intn(len(nodes))]
}

// place is that of any frame, seldom one that is none.
func (g *game) place() int {
	return g.dice.Intn(len(g.c.Bag())+2) - 1
}

func (g *game) bits() []int {
	list := make([]int, g.dice.Intn(6))
	for i := range list {
		list[i] = g.dice.Intn(10000) - 5000
	}
	return list
}

func (g *game) ask(e api.Entry) api.Errno {
	g.past.noteAsk(g.c, e)
	return g.c.Ask(g.dice.Intn(g.replicas+1), e)
}

func (g *game) change(master int, members []int) api.Errno {
	e := g.c.Change(master, members)
	if e == api.OK {
		g.begun[master-200]++
	}
	return e
}

// seq grows in the course of the play, so that logs grow to their end.
func (g *game) seq() int {
	return g.steps/40 + g.dice.Intn(10)
}

// step takes one step, whatever it is.
func (g *game) step() api.Errno {
	g.steps++
	switch g.dice.Intn(64) {
	case 0:
		if g.mayChange {
			return g.change(200+g.dice.Intn(2), g.wanted())
		}
	case 1, 2, 3, 4:
		return g.ask(put(g.dice.Intn(4), g.seq(), g.dice.Intn(3), g.dice.Intn(1000)))
	case 5:
		return g.ask(get(g.dice.Intn(4), g.seq(), g.dice.Intn(3)))
	case 6, 7, 8, 9:
		return g.c.Tick(g.node())
	case 10, 11:
		return g.c.Drop(g.place())
	case 12:
		return g.c.Double(g.place())
	case 13:
		return g.c.Spoil(g.place(), g.bits())
	case 14:
		return g.c.Crash(g.node())
	case 15, 16, 17, 18:
		return g.c.Restart(g.node())
	case 19, 20:
		g.round(g.c)
		return api.OK
	case 21, 22, 23, 24, 25, 26, 27, 28:
		return g.c.Deliver(g.place())
	}
	return g.c.Deliver(0)
}

// latest is the register of the greatest epoch.
func latest(c *Cluster) api.Ballots {
	all := look(c).Ballots
	return slices.MaxFunc(all, func(a, b api.Ballots) int { return a.Epoch - b.Epoch })
}

// isWhole tells whether all members of the latest register are of that epoch, and none is sealed.
func isWhole(c *Cluster) bool {
	b := latest(c)
	for _, member := range b.Members {
		if s, _ := c.Status(member); s.Epoch != b.Epoch || s.Seal > s.Epoch {
			return false
		}
	}
	return true
}

// greatest is the master whose next ballot is above all that were promised.
func (g *game) greatest() int {
	if g.begun[0] > g.begun[1] {
		return 200
	}
	return 201
}

// rounds plays some of them, and notes what is committed behind each.
func (g *game) rounds(n int) {
	g.t.Helper()
	for range n {
		g.c.Round()
		g.past.note(g.t, g.c, g.replicas)
	}
}

// changeInPeace changes the members when all nodes are up and nothing is lost.
func (g *game) changeInPeace(members []int) {
	g.t.Helper()
	for _, node := range nodesOf(g.replicas) {
		g.c.Restart(node)
	}
	master := g.greatest()
	check(g.t, "P6: Change", g.change(master, members), api.OK)
	g.rounds(40)
	checkIdle(g.t, "P15: a change comes to its end", g.c, master)
}

// askAMember asks one for something new; it is answered, if there is room.
func (g *game) askAMember(e api.Entry) {
	g.t.Helper()
	members := latest(g.c).Members
	if s, _ := g.c.Status(members[0]); len(s.Log) == 24 {
		return
	}
	g.past.noteAsk(g.c, e)
	check(g.t, "P6: Ask", g.c.Ask(members[g.dice.Intn(len(members))], e), api.OK)
	g.rounds(20)
	isIt := func(a api.Answer) bool { return a.Client == e.Client && a.Seq == e.Seq }
	if !slices.ContainsFunc(g.c.Answers(), isIt) {
		g.t.Fatalf("P15: %+v was not answered: %+v", e, look(g.c))
	}
}

// TestAnyPlayOfAllCalls: P15, whatever is lost, doubled, turned round, spoiled, and goes down; and P1, where a step is refused.
func TestAnyPlayOfAllCalls(t *testing.T) {
	for seed := range int64(200) {
		g := newGame(t, seed, 1+int(seed)%5)
		for range 100 + g.dice.Intn(1500) {
			before := look(g.c)
			e := g.step()
			if e != api.OK && !same(before, look(g.c)) {
				t.Fatalf("P1: an error, %d, changed %+v into %+v", e, before, look(g.c))
			}
			g.past.note(t, g.c, g.replicas)
		}
		g.changeInPeace(g.someMembers())
		// Members whom a change that was left half done has sealed or installed for a later epoch take part behind one more.
		if !isWhole(g.c) {
			g.changeInPeace(g.someMembers())
		}
		g.askAMember(get(3, 999, 0))
	}
}

// TestOneChangeIsEnough: P15, where no change was left half done, whatever else went wrong.
func TestOneChangeIsEnough(t *testing.T) {
	for seed := range int64(60) {
		g := newGame(t, seed, 1+int(seed)%5)
		g.mayChange = false
		for epoch := 1; epoch <= 6; epoch++ {
			for range 150 {
				g.step()
				g.past.note(t, g.c, g.replicas)
			}
			members := g.someMembers()
			g.changeInPeace(members)
			checkRegisters(t, "P15: behind a change", g.c, epoch, members...)
			if !isWhole(g.c) {
				t.Fatalf("P15: behind a change to %v: %+v", members, look(g.c))
			}
			g.askAMember(put(3, 900+epoch, 0, epoch))
		}
	}
}

// TestHalfDoneChange: a register that one acceptor alone has, and a Seal for the epoch behind that one, are left of earlier
// changes. The next change comes to its end, but to that of the epoch which is settled already, sealed as it is; the one
// behind it is enough.
func TestHalfDoneChange(t *testing.T) {
	c := open(t, 1)
	c.Change(200, []int{0})
	deliverTill(t, c, api.Write)
	c.Deliver(2)
	dropAll(c)
	c.Crash(200)
	c.Change(201, []int{0})
	deliverTill(t, c, api.Register)
	c.Drop(0)
	deliverTill(t, c, api.Seal)
	deliver(t, c, 1)
	dropAll(c)
	c.Restart(200)
	checkAt(t, "P12: sealed by the second change", c, 0, 1, 2, 0, 0, 0)
	for epoch := 1; epoch <= 2; epoch++ {
		check(t, "P6: Change", c.Change(201, []int{0}), api.OK)
		for range 20 {
			c.Round()
		}
		checkIdle(t, "P15: a change comes to its end", c, 201)
		checkRegisters(t, "P15: a change comes to its end", c, epoch, 0)
		checkAt(t, "P15: a change comes to its end", c, 0, epoch, 2, 0, 0, 0)
	}
	ask(t, c, 0, get(0, 0, 0))
	checkAnswers(t, "P15: a request is answered", c, api.Answer{Client: 0, Seq: 0, Value: -1})
}

// TestManyGames: P2, clusters that are played in turn, and at the same time, are as if each were alone.
func TestManyGames(t *testing.T) {
	const games, steps = 6, 300
	var want []picture
	for seed := range int64(games) {
		g := newGame(t, seed, 1+int(seed)%5)
		for range steps {
			g.step()
		}
		want = append(want, look(g.c))
	}
	var inTurn, atOnce []*game
	for seed := range int64(games) {
		inTurn = append(inTurn, newGame(t, seed, 1+int(seed)%5))
		atOnce = append(atOnce, newGame(t, seed, 1+int(seed)%5))
	}
	var all sync.WaitGroup
	for _, g := range atOnce {
		all.Go(func() {
			for range steps {
				g.step()
			}
		})
	}
	all.Wait()
	for range steps {
		for _, g := range inTurn {
			g.step()
		}
	}
	for i := range want {
		if got := look(inTurn[i].c); !same(got, want[i]) {
			t.Errorf("P2: played in turn: %+v, alone: %+v", got, want[i])
		}
		if got := look(atOnce[i].c); !same(got, want[i]) {
			t.Errorf("P2: played at the same time: %+v, alone: %+v", got, want[i])
		}
	}
}

// TestScribblesInAnyPlay: P2, who writes into all lists that come out changes neither the play nor lists that came out before.
func TestScribblesInAnyPlay(t *testing.T) {
	for seed := range int64(20) {
		clean, scribbled := newGame(t, seed, 1+int(seed)%5), newGame(t, seed, 1+int(seed)%5)
		var kept, want []picture
		for range 200 {
			clean.step()
			scribbled.step()
			want = append(want, look(clean.c))
			kept = append(kept, look(scribbled.c))
			scribblePicture(look(scribbled.c))
		}
		for i := range want {
			if !same(kept[i], want[i]) {
				t.Fatalf("P2: behind step %d: %+v, without scribbles %+v", i, kept[i], want[i])
			}
		}
	}
}
