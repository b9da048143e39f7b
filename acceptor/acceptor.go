// Package acceptor: a node that votes on what the next epoch begins with, and keeps the register: see DOC.md.
package acceptor

import (
	"slices"

	"cordon/api"
)

// noBallot is below the ballot of every master.
const noBallot = -1

// Acceptor is what an acceptor has (P11).
type Acceptor struct {
	number  int
	epoch   int   // of the register
	members []int // of the register
	byEpoch map[int]ballots
}

// ballots is what an acceptor promised and voted for in one epoch.
type ballots struct {
	promise int
	vote    int
	members []int       // of the vote
	log     []api.Entry // of the vote
}

// New makes the acceptor of this number, as it is ahead of all changes (P5).
func New(number int, all []int) *Acceptor {
	return &Acceptor{number: number, members: slices.Clone(all), byEpoch: map[int]ballots{}}
}

// Take takes in a message and tells what the acceptor sends for it.
func (a *Acceptor) Take(m api.Msg) []api.Msg {
	switch m.Kind {
	case api.Read:
		return a.takeRead(m)
	case api.Prepare:
		return a.takePrepare(m)
	case api.Accept:
		return a.takeAccept(m)
	case api.Write:
		return a.takeWrite(m)
	}
	return nil
}

// Tick sends nothing: an acceptor only answers (P11).
func (a *Acceptor) Tick() []api.Msg { return nil }

// Crash loses nothing: a promise that could be forgotten would be none (P8).
func (a *Acceptor) Crash() {}

// Restart changes nothing, as nothing was lost (P8).
func (a *Acceptor) Restart() {}

// Ballots tells how it is with the acceptor, but for whether it is up (P10).
func (a *Acceptor) Ballots() api.Ballots {
	return api.Ballots{Epoch: a.epoch, Members: slices.Clone(a.members)}
}

func (a *Acceptor) takeRead(m api.Msg) []api.Msg {
	return a.answer(m, api.Msg{
		Kind:    api.Register,
		Epoch:   a.epoch,
		Ballot:  m.Ballot,
		Members: slices.Clone(a.members),
	})
}

func (a *Acceptor) takePrepare(m api.Msg) []api.Msg {
	b, ok := a.promised(m)
	if !ok {
		return nil
	}
	a.byEpoch[m.Epoch] = b
	return a.answer(m, api.Msg{
		Kind:    api.Promise,
		Epoch:   m.Epoch,
		Ballot:  m.Ballot,
		Vote:    b.vote,
		Members: slices.Clone(b.members),
		Log:     slices.Clone(b.log),
	})
}

func (a *Acceptor) takeAccept(m api.Msg) []api.Msg {
	b, ok := a.promised(m)
	if !ok {
		return nil
	}
	b.vote = m.Ballot
	b.members = slices.Clone(m.Members)
	b.log = slices.Clone(m.Log)
	a.byEpoch[m.Epoch] = b
	return a.answer(m, api.Msg{Kind: api.Accepted, Epoch: m.Epoch, Ballot: m.Ballot})
}

// takeWrite answers in any case: a register of a greater epoch serves the one who asks as well.
func (a *Acceptor) takeWrite(m api.Msg) []api.Msg {
	if m.Epoch > a.epoch {
		a.epoch = m.Epoch
		a.members = slices.Clone(m.Members)
	}
	return a.answer(m, api.Msg{Kind: api.Written, Epoch: m.Epoch})
}

// promised is the ballots of the message's epoch with its ballot promised;
// ok says that none above it was.
func (a *Acceptor) promised(m api.Msg) (b ballots, ok bool) {
	b = a.ballotsOf(m.Epoch)
	if m.Ballot < b.promise {
		return b, false
	}
	b.promise = m.Ballot
	return b, true
}

func (a *Acceptor) ballotsOf(epoch int) ballots {
	if b, ok := a.byEpoch[epoch]; ok {
		return b
	}
	return ballots{promise: noBallot, vote: noBallot}
}

// answer addresses what is sent to who asked.
func (a *Acceptor) answer(asked, m api.Msg) []api.Msg {
	m.From, m.To = a.number, asked.From
	return []api.Msg{m}
}
