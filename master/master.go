// Package master: a node that changes who the members are: see DOC.md.
package master

import (
	"slices"

	"cordon/api"
	"cordon/members"
)

// What a master does, one after the other.
const (
	idle = iota
	reads
	seals
	prepares
	asksForVotes
	installs
	writes
)

// noVote is what a Promise tells, if the acceptor voted for nothing.
const noVote = -1

// Master is what a master has (P14).
type Master struct {
	number int
	begun  int
	change
}

// change is what a master knows of the change that it makes; when it is idle,
// there is nothing to know.
type change struct {
	doing   int
	waits   []int // from these nothing came yet for what it does now, in the order in which they are asked
	epoch   int
	old     []int // the members of the epoch before, from the first Register on till they are asked
	vote    int   // the greatest one that a Promise told
	members []int // those that it wants, till a vote tells others
	log     []api.Entry
}

// New makes the master of this number, which is idle (P5).
func New(number int) *Master {
	return &Master{number: number}
}

// MayBegin tells whether the master has not begun as often as it may (P6).
func (m *Master) MayBegin() bool {
	return m.begun < api.MaxBegun
}

// Begin begins a change to these members, whatever the master did, and tells
// what it sends for that (P14).
func (m *Master) Begin(wanted []int) []api.Msg {
	m.begun++
	m.change = change{vote: noVote, members: slices.Clone(wanted)}
	return m.turnTo(reads, acceptors())
}

// Take takes in a message and tells what the master sends for it.
func (m *Master) Take(answer api.Msg) []api.Msg {
	from := slices.Index(m.waits, answer.From)
	if from < 0 || !m.isAnswer(answer) {
		return nil
	}
	m.waits = slices.Delete(m.waits, from, from+1)
	m.learn(answer)
	if !m.hasEnough() {
		return nil
	}
	return m.goOn()
}

// Tick asks those again from which nothing came yet (P14).
func (m *Master) Tick() []api.Msg {
	var sent []api.Msg
	for _, to := range m.waits {
		question := m.question()
		question.From, question.To = m.number, to
		sent = append(sent, question)
	}
	return sent
}

// Crash loses the change, but not how often the master began: no two changes may have one ballot (P8).
func (m *Master) Crash() {
	m.rest()
}

// Restart leaves the master idle (P8).
func (m *Master) Restart() {}

// ballot is no other master's, and above all that this one had before.
func (m *Master) ballot() int {
	return api.Masters*m.begun + m.number - api.Master
}

// turnTo begins to do a thing, for which these are asked.
func (m *Master) turnTo(doing int, asked []int) []api.Msg {
	m.doing = doing
	m.waits = slices.Clone(asked)
	return m.Tick()
}

// goOn turns to what comes behind the thing that is done.
func (m *Master) goOn() []api.Msg {
	switch m.doing {
	case reads:
		old := m.old
		m.old = nil
		return m.turnTo(seals, old)
	case seals:
		return m.turnTo(prepares, acceptors())
	case prepares:
		return m.turnTo(asksForVotes, acceptors())
	case asksForVotes:
		return m.turnTo(installs, m.members)
	case installs:
		return m.turnTo(writes, acceptors())
	}
	m.rest()
	return nil
}

// rest makes the master idle: it waits for nobody.
func (m *Master) rest() {
	m.change = change{doing: idle}
}

func acceptors() []int {
	return members.Numbers(api.Acceptor, api.Acceptors)
}
