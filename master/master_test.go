package master

import (
	"slices"
	"testing"

	"cordon/api"
)

// TestCourse: what is sent at each answer, of a change from its beginning to its end.
func TestCourse(t *testing.T) {
	m := New(201)
	checkSent(t, "P14: idle", m.Tick(), nil)
	sent := m.Begin([]int{2, 0})
	for _, s := range course() {
		checkSent(t, "P14: "+s.name, sent, fromTo(s.question, s.asked...))
		for i, answer := range s.answers {
			sent = m.Take(answer)
			if i+1 < len(s.answers) {
				checkSent(t, "P14: "+s.name+" still", sent, nil)
			}
		}
	}
	checkSent(t, "P14: idle again", m.Tick(), nil)
}

// TestTick: in each thing, at first and when some have answered.
func TestTick(t *testing.T) {
	for place, s := range course() {
		m := bring(place)
		asked := s.asked
		for _, answer := range s.answers {
			checkSent(t, "P14: Tick: "+s.name, m.Tick(), fromTo(s.question, asked...))
			checkSent(t, "P14: Tick once more: "+s.name, m.Tick(), fromTo(s.question, asked...))
			m.Take(answer)
			asked = slices.DeleteFunc(slices.Clone(asked), func(n int) bool { return n == answer.From })
		}
	}
}

// TestEveryPairOfAcceptors: any two end a thing that acceptors are asked for; none does it alone.
func TestEveryPairOfAcceptors(t *testing.T) {
	stages := course()
	for place, s := range stages {
		if !slices.Contains(s.asked, 100) {
			continue
		}
		for first := 100; first < 103; first++ {
			for second := 100; second < 103; second++ {
				m := bring(place)
				one, two := s.answers[0], s.answers[0]
				one.From, two.From = first, second
				checkSent(t, "P14: the first answer, "+s.name, m.Take(one), nil)
				var want []api.Msg
				if next := stages[place+1]; first != second {
					want = fromTo(next.question, next.asked...)
				}
				checkSent(t, "P14: the second answer, "+s.name, m.Take(two), want)
			}
		}
	}
}

// TestAnswersAgain: a second and a third answer of one node are as good as none.
func TestAnswersAgain(t *testing.T) {
	stages := course()
	for place, s := range stages {
		if len(s.answers) < 2 {
			continue
		}
		m := bring(place)
		m.Take(s.answers[0])
		checkNothing(t, "P14: the same answer again, "+s.name, m, s.answers[0], s.answers[0])
		next := stages[place+1]
		checkSent(t, "P14: and the other's, "+s.name, m.Take(s.answers[1]), fromTo(next.question, next.asked...))
	}
}

// TestLateAnswers: answers to what the master does no more, or not yet.
func TestLateAnswers(t *testing.T) {
	for place, s := range course() {
		for other, o := range course() {
			if other == place {
				continue
			}
			m := bring(place)
			for _, answer := range o.answers {
				for _, from := range []int{0, 1, 2, 3, 100, 101, 102} {
					answer.From = from
					checkNothing(t, "P14: "+s.name+", the answer to another thing", m, answer)
				}
			}
		}
	}
}

// TestAnswersOfOthers: of nodes that were not asked.
func TestAnswersOfOthers(t *testing.T) {
	for place, s := range course() {
		m := bring(place)
		for _, answer := range s.answers {
			for _, from := range []int{-1, 0, 1, 2, 3, 4, 99, 100, 101, 102, 103, 200, 201, 300} {
				if slices.Contains(s.asked, from) {
					continue
				}
				answer.From = from
				checkNothing(t, "P14: "+s.name+", one who was not asked", m, answer)
			}
		}
	}
}

// TestAnswersOfOtherBallots: of other ballots and epochs, where they are named.
func TestAnswersOfOtherBallots(t *testing.T) {
	for place, s := range course() {
		m := bring(place)
		for _, answer := range s.answers {
			for _, more := range []int{-3, -2, -1, 1, 2} {
				if answer.Ballot != 0 {
					other := answer
					other.Ballot += more
					checkNothing(t, "P14: "+s.name+", another ballot", m, other)
				}
				if answer.Kind != api.Register {
					other := answer
					other.Epoch += more
					checkNothing(t, "P14: "+s.name+", another epoch", m, other)
				}
			}
		}
	}
}

// TestNotNamed: messages of the kinds that are for others, or are none.
func TestNotNamed(t *testing.T) {
	for place, s := range course() {
		m := bring(place)
		for kind := -1; kind <= 18; kind++ {
			if kind == s.question.Kind+1 {
				continue
			}
			for _, answer := range s.answers {
				answer.Kind = kind
				checkNothing(t, "P14: "+s.name+", a kind that is no answer to that", m, answer)
			}
		}
	}
}

func TestRegisters(t *testing.T) {
	for _, c := range []struct {
		what          string
		first, second api.Msg
		epoch         int
		old           []int
	}{
		{"the same", register(100, 0, 3, 0, 1), register(101, 0, 3, 0, 1), 1, []int{0, 1}},
		{"of one epoch, the first counts", register(102, 6, 3, 2), register(101, 6, 3, 1, 0), 7, []int{2}},
		{"of one epoch, the first counts", register(101, 6, 3, 1, 0), register(102, 6, 3, 2), 7, []int{1, 0}},
		{"the first is greater", register(100, 8, 3, 2, 4), register(101, 7, 3, 0, 1), 9, []int{2, 4}},
		{"the second is greater", register(102, 7, 3, 0, 1), register(101, 8, 3, 2, 4), 9, []int{2, 4}},
		{"the second is far greater", register(102, 0, 3, 0, 1, 2, 3, 4), register(101, 1999, 3, 3), 2000, []int{3}},
	} {
		m := New(201)
		m.Begin([]int{0})
		checkSent(t, "P14: Registers: "+c.what, m.Take(c.first), nil)
		want := fromTo(api.Msg{Kind: api.Seal, Epoch: c.epoch, Ballot: 3}, c.old...)
		checkSent(t, "P14: Registers: "+c.what, m.Take(c.second), want)
		checkSent(t, "P14: Registers: Tick behind them", m.Tick(), want)
	}
}

// TestSealed: the first one counts, whichever it is of.
func TestSealed(t *testing.T) {
	for _, from := range []int{1, 3, 0} {
		for _, length := range []int{0, 1, 24} {
			m := bring(1)
			checkSent(t, "P14: Sealed", m.Take(sealed(from, 5, 3, longLog(length))), fromTo(api.Msg{Kind: api.Prepare, Epoch: 5, Ballot: 3}, 100, 101, 102))
			checkNothing(t, "P14: Sealed of another", m, sealed(1, 5, 3, longLog(7)), sealed(3, 5, 3, longLog(7)), sealed(0, 5, 3, longLog(7)))
			m.Take(noPromise(100, 5, 3))
			checkSent(t, "P14: the log is that one's", m.Take(noPromise(102, 5, 3)), fromTo(api.Msg{Kind: api.Accept, Epoch: 5, Ballot: 3, Members: []int{2, 0}, Log: longLog(length)}, 100, 101, 102))
		}
	}
}

func TestPromises(t *testing.T) {
	none := noPromise(100, 5, 3)
	low, high := promise(101, 5, 3, 0, []int{1}, longLog(3)), promise(102, 5, 3, 2, []int{3, 4}, nil)
	for _, c := range []struct {
		what          string
		first, second api.Msg
		members       []int
		log           []api.Entry
	}{
		{"no vote", none, noPromise(101, 5, 3), []int{2, 0}, longLog(2)},
		{"the first has one", low, none, []int{1}, longLog(3)},
		{"the second has one", none, low, []int{1}, longLog(3)},
		{"one with an empty log", none, high, []int{3, 4}, nil},
		{"the second is greater", low, high, []int{3, 4}, nil},
		{"the first is greater", high, low, []int{3, 4}, nil},
		{"the same", low, promise(100, 5, 3, 0, []int{1}, longLog(3)), []int{1}, longLog(3)},
	} {
		m := bring(2)
		checkSent(t, "P14: Promises: "+c.what, m.Take(c.first), nil)
		checkSent(t, "P14: Promises: "+c.what, m.Take(c.second), fromTo(api.Msg{Kind: api.Accept, Epoch: 5, Ballot: 3, Members: c.members, Log: c.log}, 100, 101, 102))
		m.Take(accepted(100, 5, 3))
		checkSent(t, "P14: Install of what was voted for", m.Take(accepted(101, 5, 3)), fromTo(api.Msg{Kind: api.Install, Epoch: 5, Members: c.members, Log: c.log}, c.members...))
		var sent []api.Msg
		for _, member := range c.members {
			checkSent(t, "P14: the Installed of all are waited for", sent, nil)
			sent = m.Take(installed(member, 5))
		}
		checkSent(t, "P14: Write of what was voted for", sent, fromTo(api.Msg{Kind: api.Write, Epoch: 5, Members: c.members}, 100, 101, 102))
	}
}

// TestVotesOfAnEarlierChange: what a Promise told in a change is forgotten in the next one.
func TestVotesOfAnEarlierChange(t *testing.T) {
	m := bring(2)
	m.Take(promise(101, 5, 3, 2, []int{1}, longLog(3)))
	m.Begin([]int{4})
	for _, answer := range []api.Msg{register(100, 0, 5, 0), register(101, 0, 5, 0), sealed(0, 1, 5, longLog(1)), promise(100, 1, 5, 1, []int{3}, nil)} {
		m.Take(answer)
	}
	checkSent(t, "P14: the votes of now", m.Take(noPromise(101, 1, 5)), fromTo(api.Msg{Kind: api.Accept, Epoch: 1, Ballot: 5, Members: []int{3}}, 100, 101, 102))
}

func TestInstallsAll(t *testing.T) {
	m := New(201)
	m.Begin([]int{4, 0, 3, 1, 2})
	for _, answer := range []api.Msg{register(100, 0, 3, 0), register(101, 0, 3, 0), sealed(0, 1, 3, nil), noPromise(100, 1, 3), noPromise(101, 1, 3), accepted(100, 1, 3)} {
		m.Take(answer)
	}
	install := api.Msg{Kind: api.Install, Epoch: 1, Members: []int{4, 0, 3, 1, 2}}
	checkSent(t, "P14: Install, in their order", m.Take(accepted(102, 1, 3)), fromTo(install, 4, 0, 3, 1, 2))
	m.Take(installed(3, 1))
	m.Take(installed(4, 1))
	checkSent(t, "P14: Tick, in their order", m.Tick(), fromTo(install, 0, 1, 2))
	checkNothing(t, "P14: Installed again", m, installed(3, 1), installed(4, 1))
	m.Take(installed(2, 1))
	m.Take(installed(0, 1))
	checkSent(t, "P14: Tick for the last one", m.Tick(), fromTo(install, 1))
	checkSent(t, "P14: the last one", m.Take(installed(1, 1)), fromTo(api.Msg{Kind: api.Write, Epoch: 1, Members: []int{4, 0, 3, 1, 2}}, 100, 101, 102))
}

// TestBallots: of both masters, at each beginning, up to the last one.
func TestBallots(t *testing.T) {
	for _, number := range []int{200, 201} {
		m := New(number)
		for i := 1; i <= 1000; i++ {
			if !m.MayBegin() {
				t.Fatalf("P6: master %d may not begin for the %dth time", number, i)
			}
			sent := m.Begin([]int{0})
			if len(sent) != 3 || sent[2].Ballot != 2*i+number-200 || sent[2].From != number {
				t.Fatalf("P14: master %d sent %+v for the %dth time", number, sent, i)
			}
			if i%3 == 0 {
				m.Crash()
				m.Restart()
			}
		}
		if m.MayBegin() {
			t.Errorf("P6: master %d may begin for the 1001st time", number)
		}
	}
}

// TestCrash: in each thing; behind it the master is idle, and knows how often it began.
func TestCrash(t *testing.T) {
	for place, s := range course() {
		m := bring(place)
		m.Crash()
		m.Restart()
		checkSent(t, "P8: Tick behind Restart: "+s.name, m.Tick(), nil)
		for _, other := range course() {
			checkNothing(t, "P8: what was asked for is forgotten: "+s.name, m, other.answers...)
		}
		checkSent(t, "P8: it began once: "+s.name, m.Begin([]int{1}), fromTo(api.Msg{Kind: api.Read, Ballot: 5}, 100, 101, 102))
	}
}

// TestBeginAgain: in each thing, also when one has answered; what came for the change before is forgotten.
func TestBeginAgain(t *testing.T) {
	for place, s := range course() {
		m := bring(place)
		if len(s.answers) > 0 && place != 1 {
			m.Take(s.answers[0])
		}
		read := fromTo(api.Msg{Kind: api.Read, Ballot: 5}, 100, 101, 102)
		checkSent(t, "P14: Change while "+s.name, m.Begin([]int{4, 3}), read)
		for _, other := range course() {
			checkNothing(t, "P14: answers to the change before: "+s.name, m, other.answers...)
		}
		checkSent(t, "P14: all are asked", m.Tick(), read)
		m.Take(register(100, 1, 5, 2))
		checkSent(t, "P14: an epoch below that of the change before", m.Take(register(101, 0, 5, 0)), fromTo(api.Msg{Kind: api.Seal, Epoch: 2, Ballot: 5}, 2))
		m.Take(sealed(2, 2, 5, longLog(1)))
		m.Take(noPromise(100, 2, 5))
		checkSent(t, "P14: the members that are wanted now", m.Take(noPromise(101, 2, 5)), fromTo(api.Msg{Kind: api.Accept, Epoch: 2, Ballot: 5, Members: []int{4, 3}, Log: longLog(1)}, 100, 101, 102))
	}
}

// TestKeepsNoList: what comes in and goes out is no memory of the master, and no two messages share any.
func TestKeepsNoList(t *testing.T) {
	wanted := []int{2, 0}
	m := New(201)
	sent := m.Begin(wanted)
	scribble(api.Msg{Members: wanted})
	for place, s := range course() {
		want := fromTo(s.question, s.asked...)
		for i := range sent {
			checkSent(t, "P2: another message, when "+s.name, sent[i:], want[i:])
			scribble(sent[i])
			checkSent(t, "P2: what goes out, when "+s.name, m.Tick(), want)
		}
		for _, answer := range course()[place].answers {
			sent = m.Take(answer)
			scribble(answer)
		}
	}
	m = bring(2)
	told := promise(100, 5, 3, 2, []int{1}, longLog(3))
	m.Take(told)
	scribble(told)
	checkSent(t, "P2: the lists of a vote", m.Take(noPromise(101, 5, 3)), fromTo(api.Msg{Kind: api.Accept, Epoch: 5, Ballot: 3, Members: []int{1}, Log: longLog(3)}, 100, 101, 102))
}

func scribble(m api.Msg) {
	for i := range m.Members {
		m.Members[i] = 9
	}
	for i := range m.Log {
		m.Log[i] = api.Entry{}
	}
}
