package cordon

import (
	"math"
	"math/big"
	"math/rand"
	"slices"
	"testing"

	"cordon/api"
	"cordon/wire"
)

// turned works out by itself what a frame is when these bits are turned, all of them.
func turned(s string, bits ...int) string {
	bytes := []byte(s)
	count := big.NewInt(int64(8 * len(s)))
	for _, bit := range bits {
		at := new(big.Int).Mod(big.NewInt(int64(bit)), count).Int64()
		bytes[at/8] = byte(int(bytes[at/8]) ^ []int{1, 2, 4, 8, 16, 32, 64, 128}[at%8])
	}
	return string(bytes)
}

// checkSpoil spoils the frame at i of a bag, and asks that it alone is changed, and how.
func checkSpoil(t *testing.T, what string, c *Cluster, i int, bits []int, turns ...int) {
	t.Helper()
	want := look(c)
	want.Bag[i] = turned(want.Bag[i], turns...)
	check(t, what, c.Spoil(i, bits), api.OK)
	if got := look(c); !same(got, want) {
		t.Errorf("%s: Spoil(%d, %v): the bag is %x, want %x", what, i, bits, got.Bag, want.Bag)
	}
}

func checkSpoilRefused(t *testing.T, what string, c *Cluster, places ...int) {
	t.Helper()
	for _, i := range places {
		for _, bits := range [][]int{nil, {}, {0}, {9, 8, 7, 6}} {
			checkRefused(t, c, what, api.ErrFrame, func() api.Errno { return c.Spoil(i, bits) })
		}
	}
}

// TestSpoilBits: which bits are turned, by numbers of all sorts. A Request has 31 bytes.
func TestSpoilBits(t *testing.T) {
	const n = 8 * 31
	for _, x := range []struct{ bits, turns []int }{
		{nil, nil},
		{[]int{}, nil},
		{[]int{0}, []int{0}},
		{[]int{7}, []int{7}},
		{[]int{8}, []int{8}},
		{[]int{n - 1}, []int{n - 1}},
		{[]int{n}, []int{0}},
		{[]int{n + 11}, []int{11}},
		{[]int{2*n - 1}, []int{n - 1}},
		{[]int{1000000*n + 77}, []int{77}},
		{[]int{-1}, []int{n - 1}},
		{[]int{-8}, []int{n - 8}},
		{[]int{-n}, []int{0}},
		{[]int{-n - 1}, []int{n - 1}},
		{[]int{-1000000*n - 3}, []int{n - 3}},
		{[]int{math.MaxInt}, []int{math.MaxInt}},
		{[]int{math.MinInt}, []int{math.MinInt}},
		{[]int{1, 100}, []int{1, 100}},
		{[]int{100, 1, 50}, []int{1, 50, 100}},
		{[]int{0, n + 8, -1, 5}, []int{0, 8, n - 1}},
		{[]int{0, 1, 2, 3, 4, 5, 6, 7}, []int{0, 1, 2}},
		{[]int{5, 5}, nil},
		{[]int{5, 5 + n}, nil},
		{[]int{-1, n - 1, 6}, []int{6}},
		{[]int{5, 6, 5}, []int{6}},
		{[]int{5, 5, 5}, []int{5}},
		{[]int{5, 5, 5, 5}, []int{5}},
		{[]int{3, 2, 1, 3, 2, 1}, []int{1, 2, 3}},
		{[]int{math.MinInt, math.MaxInt, -1}, []int{math.MinInt, math.MaxInt, n - 1}},
	} {
		for i := range 3 {
			c := open(t, 2)
			askSome(c, 3)
			checkSpoil(t, "P7: which bits", c, i, x.bits, x.turns...)
			checkSpoilRefused(t, "P7: spoiled before, whatever was turned", c, i)
		}
	}
}

// TestSpoilEveryBit: of frames of different lengths, counted from the first and from the last one.
func TestSpoilEveryBit(t *testing.T) {
	for length := range 3 {
		m := api.Msg{Kind: api.Accept, From: 200, To: 100, Epoch: 1, Ballot: 2, Members: make([]int, length), Log: make([]api.Entry, length)}
		n := 8 * (21 + 12*length)
		for bit := range n {
			for _, number := range []int{bit, bit - n, bit + n} {
				c := open(t, 2)
				c.bag.send(m)
				checkSpoil(t, "P7: every bit", c, 0, []int{number}, bit)
			}
		}
	}
}

func TestSpoilPlaces(t *testing.T) {
	c := open(t, 2)
	for frames := range 4 {
		checkSpoilRefused(t, "P7: no place of a frame", c, math.MinInt, -1, frames, frames+1, 200, math.MaxInt)
		c.Ask(0, put(0, frames, 0, 0))
	}
}

// TestSpoilOnce: a frame, and what was doubled from it behind the spoiling, by however many steps.
func TestSpoilOnce(t *testing.T) {
	c := open(t, 2)
	askSome(c, 2)
	checkSpoil(t, "P7: the first time", c, 1, []int{3}, 3)
	checkSpoilRefused(t, "P7: spoiled before", c, 1)
	check(t, "P7: Double", c.Double(1), api.OK)
	check(t, "P7: Double of the doubled", c.Double(2), api.OK)
	if l := c.Bag(); l[2] != l[1] || l[3] != l[1] {
		t.Errorf("P7: doubled is %x", l)
	}
	checkSpoilRefused(t, "P7: doubled from one that was spoiled", c, 1, 2, 3)
	checkSpoil(t, "P7: another", c, 0, []int{-4, 9}, 9, -4)
}

// TestSpoilTheDoubled: of two that were doubled ahead of the spoiling each one is spoiled once.
func TestSpoilTheDoubled(t *testing.T) {
	for first := range 2 {
		c := open(t, 2)
		askSome(c, 1)
		check(t, "P7: Double", c.Double(0), api.OK)
		checkSpoil(t, "P7: one of the two", c, first, []int{1, 2}, 1, 2)
		checkSpoilRefused(t, "P7: one of the two, again", c, first)
		checkSpoil(t, "P7: the other one", c, 1-first, []int{20}, 20)
		checkSpoilRefused(t, "P7: both again", c, 0, 1)
	}
}

// TestSpoiledWithoutATurn: where no bit was turned in the end, the frame arrives as ever, but counts as spoiled.
func TestSpoiledWithoutATurn(t *testing.T) {
	for _, bits := range [][]int{nil, {}, {9, 9}, {-1, 247}} {
		c := open(t, 2)
		e := askSome(c, 1)[0].Log[0]
		checkSpoil(t, "P7: no bit is turned", c, 0, bits)
		check(t, "P7: Double", c.Double(0), api.OK)
		checkSpoilRefused(t, "P7: no bit was turned", c, 0, 1)
		deliver(t, c, 1)
		checkBag(t, "P7: it arrives", c, request(300, 0, e), forward(0, 1, 0, e))
		checkSpoilRefused(t, "P7: the doubled, further ahead", c, 0)
		checkSpoil(t, "P7: what is sent for it", c, 1, []int{2}, 2)
	}
}

// TestSpoiledKeepTheirPlaces: which frames were spoiled is known also when others ahead of them leave the bag.
func TestSpoiledKeepTheirPlaces(t *testing.T) {
	for _, leave := range []func(*Cluster, int) api.Errno{(*Cluster).Drop, (*Cluster).Deliver} {
		c := open(t, 1)
		c.Crash(0)
		askSome(c, 6)
		for _, i := range []int{1, 4} {
			checkSpoil(t, "P7: Spoil", c, i, []int{i}, i)
		}
		check(t, "P7: the first one leaves", leave(c, 0), api.OK)
		checkSpoilRefused(t, "P7: those that were spoiled", c, 0, 3)
		check(t, "P7: one between leaves", leave(c, 1), api.OK)
		checkSpoilRefused(t, "P7: those that were spoiled", c, 0, 2)
		check(t, "P7: one that was spoiled leaves", leave(c, 0), api.OK)
		checkSpoilRefused(t, "P7: the other one", c, 1)
		checkSpoil(t, "P7: one that was not", c, 0, []int{5}, 5)
		checkSpoil(t, "P7: one that was not", c, 2, []int{5}, 5)
		checkSpoilRefused(t, "P7: all", c, 0, 1, 2)
	}
}

// TestNewFramesAreUnspoiled: what comes into the place of a spoiled one is none.
func TestNewFramesAreUnspoiled(t *testing.T) {
	for _, leave := range []func(*Cluster){func(c *Cluster) { c.Drop(0) }, func(c *Cluster) { c.Deliver(0) }, (*Cluster).Round} {
		c := open(t, 1)
		askSome(c, 1)
		checkSpoil(t, "P7: Spoil", c, 0, []int{1}, 1)
		leave(c)
		checkBag(t, "P7: it left", c)
		c.Ask(0, put(1, 1, 1, 1))
		checkSpoil(t, "P7: the next one", c, 0, []int{1}, 1)
	}
}

func TestSpoilInAFullBag(t *testing.T) {
	c := open(t, 2)
	askSome(c, 200)
	checkSpoil(t, "P7: the last of 200", c, 199, []int{8, 9, 10}, 8, 9, 10)
	want := look(c)
	check(t, "P7: Double", c.Double(199), api.OK)
	if got := look(c); !same(got, want) {
		t.Errorf("P7: a doubled frame is lost where there are 200: %+v", got)
	}
	checkSpoilRefused(t, "P7: the last of 200", c, 199, 200)
	c.Drop(0)
	check(t, "P7: Double", c.Double(198), api.OK)
	checkSpoilRefused(t, "P7: the doubled", c, 198, 199)
}

// allKinds is a message of every kind, each to a node or a client of its own sort.
func allKinds() []api.Msg {
	log := []api.Entry{put(0, 1, 1, 2)}
	return []api.Msg{
		request(300, 0, log[0]),
		forward(0, 1, 1, log[0]),
		ack(2, 1, 1),
		reply(2, 3, 4, 5),
		{Kind: api.Read, From: 200, To: 100, Ballot: 2},
		{Kind: api.Register, From: 100, To: 200, Ballot: 2, Members: []int{0, 1, 2}},
		{Kind: api.Seal, From: 201, To: 1, Epoch: 1, Ballot: 3},
		{Kind: api.Sealed, From: 1, To: 201, Epoch: 1, Ballot: 3, Log: log},
		{Kind: api.Prepare, From: 201, To: 102, Epoch: 1, Ballot: 3},
		{Kind: api.Promise, From: 102, To: 201, Epoch: 1, Ballot: 3, Vote: -1},
		{Kind: api.Accept, From: 201, To: 101, Epoch: 1, Ballot: 3, Members: []int{1, 0}, Log: log},
		{Kind: api.Accepted, From: 101, To: 201, Epoch: 1, Ballot: 3},
		{Kind: api.Install, From: 201, To: 1, Epoch: 1, Members: []int{1, 0}, Log: log},
		{Kind: api.Installed, From: 1, To: 201, Epoch: 1},
		{Kind: api.Write, From: 201, To: 101, Epoch: 1, Members: []int{1, 0}},
		{Kind: api.Written, From: 101, To: 201, Epoch: 1},
	}
}

// TestSpoiledFramesAreLost: of every kind, one to three bits turned; delivered, and in a Round.
func TestSpoiledFramesAreLost(t *testing.T) {
	dice := rand.New(rand.NewSource(7))
	c := open(t, 3)
	ask(t, c, 0, put(0, 0, 1, 1))
	idle := look(c)
	for _, m := range allKinds() {
		for try := range 300 {
			c.bag.send(m)
			n := 8 * len(c.Bag()[0])
			bits := dice.Perm(n)[:1+try%3]
			check(t, "P7: Spoil", c.Spoil(0, bits), api.OK)
			if _, e := wire.Decode(c.Bag()[0]); e != api.ErrCorrupt {
				t.Errorf("P4: %+v, of which the bits %v are turned: %d", m, bits, e)
			}
			if try%2 == 0 {
				deliver(t, c, 1)
			} else {
				c.Round()
				checkBag(t, "P9: a spoiled frame in a Round: the tail alone ticks", c, ack(2, 1, 1))
				c.Drop(0)
			}
			if got := look(c); !same(got, idle) {
				t.Fatalf("P7: %+v, of which the bits %v are turned, was taken in: %+v", m, bits, got)
			}
		}
	}
}

// TestSpoiledFramesLeave: a spoiled frame is dropped like others, and those around it arrive.
func TestSpoiledFramesLeave(t *testing.T) {
	c := open(t, 1)
	list := askSome(c, 5)
	for _, i := range []int{1, 3} {
		checkSpoil(t, "P7: Spoil", c, i, []int{100, 0}, 0, 100)
	}
	check(t, "P7: Drop", c.Drop(1), api.OK)
	c.Round()
	checkReplica(t, "P9: all but the spoiled ones", c, 0, 3, list[0].Log[0], list[2].Log[0], list[4].Log[0])
}

// TestSpoilList: the list is neither written into nor kept, and a Bag that came out stays as it was.
func TestSpoilList(t *testing.T) {
	c := open(t, 1)
	askSome(c, 2)
	bag := c.Bag()
	want := slices.Clone(bag)
	list := []int{-1, 1000, 3, 4, 5, 77, 78}
	for i, part := range [][]int{list[:2], list[:5]} {
		check(t, "P7: Spoil", c.Spoil(i, part), api.OK)
	}
	if !slices.Equal(list, []int{-1, 1000, 3, 4, 5, 77, 78}) {
		t.Errorf("P2: the list is %v", list)
	}
	if !slices.Equal(bag, want) {
		t.Errorf("P2: Spoil changed a bag that came out before: %x, then %x", want, bag)
	}
	spoiled := c.Bag()
	scribble(list, 9)
	if got := c.Bag(); !slices.Equal(got, spoiled) {
		t.Errorf("P2: the list was kept: %x, then %x", spoiled, got)
	}
}
