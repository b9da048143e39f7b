package cordon

import (
	"math/rand"
	"slices"
	"testing"

	"cordon/api"
)

// history is what was committed at any time: at each place the entry, and the
// least epoch in which a replica had committed it.
type history struct {
	log    []api.Entry
	epochs []int
}

// note asks for agreement, that nothing is lost, and that nothing is committed twice (P15).
func (h *history) note(t *testing.T, c *Cluster, replicas int) {
	t.Helper()
	for replica := range replicas {
		s, _ := c.Status(replica)
		if s.Commit > len(s.Log) || len(s.Log) > 24 {
			t.Fatalf("P10: replica %d is %+v", replica, s)
		}
		for place, e := range s.Log[:s.Commit] {
			h.noteCommit(t, place, e, s.Epoch)
		}
	}
	for replica := range replicas {
		s, _ := c.Status(replica)
		for place, e := range h.log {
			if s.Epoch > h.epochs[place] && (place >= len(s.Log) || s.Log[place] != e) {
				t.Fatalf("P15: lost is %+v at %d, committed in the epoch %d: replica %d is %+v", e, place, h.epochs[place], replica, s)
			}
		}
	}
	checkOnce(t, h.log)
	for _, a := range c.Answers() {
		checkAnswer(t, h.log, a)
	}
}

func (h *history) noteCommit(t *testing.T, place int, e api.Entry, epoch int) {
	t.Helper()
	if place == len(h.log) {
		h.log = append(h.log, e)
		h.epochs = append(h.epochs, epoch)
	}
	if h.log[place] != e {
		t.Fatalf("P15: committed at %d are %+v and %+v", place, h.log[place], e)
	}
	h.epochs[place] = min(h.epochs[place], epoch)
}

// someMembers are members of any order and number.
func someMembers(dice *rand.Rand, replicas int) []int {
	return dice.Perm(replicas)[:1+dice.Intn(replicas)]
}

// playChanges takes one step, whatever it is; it tells the master that began, or 0.
func playChanges(c *Cluster, dice *rand.Rand, replicas int) int {
	nodes := nodesOf(replicas)
	node := nodes[dice.Intn(len(nodes))]
	some := dice.Intn(max(1, len(c.Bag())))
	switch dice.Intn(60) {
	case 0:
		if master := 200 + dice.Intn(2); c.Change(master, someMembers(dice, replicas)) == api.OK {
			return master
		}
	case 1, 2, 3, 4:
		c.Ask(dice.Intn(replicas), put(dice.Intn(4), dice.Intn(30), dice.Intn(3), dice.Intn(1000)))
	case 5:
		c.Ask(dice.Intn(replicas), get(dice.Intn(4), dice.Intn(30), dice.Intn(3)))
	case 6, 7, 8, 9:
		c.Tick(node)
	case 10, 11:
		c.Drop(some)
	case 12:
		c.Double(some)
	case 13:
		c.Crash(node)
	case 14, 15, 16, 17:
		c.Restart(node)
	case 18, 19, 20, 21, 22, 23, 24, 25:
		c.Deliver(some)
	default:
		c.Deliver(0)
	}
	return 0
}

// turn lets all that is on its way arrive, then all nodes tick.
func turn(c *Cluster, replicas int) {
	for range len(c.Bag()) {
		c.Deliver(0)
	}
	for _, node := range nodesOf(replicas) {
		c.Tick(node)
	}
}

// bringToAnEnd lets master 201 change the members when all is well, and asks one of them something (P15).
func bringToAnEnd(t *testing.T, c *Cluster, dice *rand.Rand, replicas int, begun map[int]int) {
	t.Helper()
	c.Crash(200)
	for _, node := range nodesOf(replicas) {
		c.Restart(node)
	}
	dropAll(c)
	for begun[201] < begun[200] {
		c.Change(201, someMembers(dice, replicas))
		begun[201]++
	}
	// What an earlier change left unfinished may be all that the first one brings to its end.
	for tries := 0; tries == 0 || !isWhole(c) && tries < 3; tries++ {
		changeInPeace(t, c, someMembers(dice, replicas), replicas)
	}
	b := latest(c)
	if s, _ := c.Status(b.Members[0]); len(s.Log) == 24 {
		return
	}
	c.Ask(b.Members[dice.Intn(len(b.Members))], get(3, 999, 0))
	for range 30 {
		turn(c, replicas)
	}
	told := c.Answers()
	if !slices.ContainsFunc(told, func(a api.Answer) bool { return a.Client == 3 && a.Seq == 999 }) {
		t.Fatalf("P15: a request was not answered: %+v", look(c))
	}
}

// changeInPeace lets master 201 alone change the members.
func changeInPeace(t *testing.T, c *Cluster, members []int, replicas int) {
	t.Helper()
	check(t, "P6: Change", c.Change(201, members), api.OK)
	for range 40 {
		turn(c, replicas)
	}
	dropAll(c)
	checkIdle(t, "P15: a change comes to its end", c, 201)
}

// latest is the register of the greatest epoch.
func latest(c *Cluster) api.Ballots {
	all := look(c).Ballots
	return slices.MaxFunc(all, func(a, b api.Ballots) int { return a.Epoch - b.Epoch })
}

// isWhole tells whether all members of the latest register are of that epoch, and none is sealed.
func isWhole(c *Cluster) bool {
	b := latest(c)
	for _, member := range b.Members {
		if s, _ := c.Status(member); s.Epoch != b.Epoch || s.Seal > s.Epoch {
			return false
		}
	}
	return true
}

// TestAnyPlayWithChanges: P15, whatever is lost, doubled, turned round, and goes down.
func TestAnyPlayWithChanges(t *testing.T) {
	for seed := range int64(200) {
		dice := rand.New(rand.NewSource(seed))
		replicas := 1 + int(seed)%5
		c := open(t, replicas)
		past := &history{}
		begun := map[int]int{}
		for range 1500 {
			begun[playChanges(c, dice, replicas)]++
			past.note(t, c, replicas)
		}
		bringToAnEnd(t, c, dice, replicas, begun)
		past.note(t, c, replicas)
	}
}
