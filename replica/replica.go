// Package replica: a node that keeps the log, with its neighbours in the chain: see DOC.md.
package replica

import (
	"slices"

	"cordon/api"
	"cordon/members"
)

// Replica is what a replica has (P12).
type Replica struct {
	number  int
	epoch   int
	seal    int
	members []int
	log     []api.Entry
	base    int // so much of the log is committed whatever happens: the epoch began with it
	commit  int
}

// New makes the replica of this number, as it is ahead of all changes (P5).
func New(number int, all []int) *Replica {
	return &Replica{number: number, members: slices.Clone(all)}
}

// Take takes in a message and tells what the replica sends for it.
func (r *Replica) Take(m api.Msg) []api.Msg {
	switch m.Kind {
	case api.Request:
		return r.takeRequest(m)
	case api.Forward:
		return r.takeForward(m)
	case api.Ack:
		return r.takeAck(m)
	case api.Seal:
		return r.takeSeal(m)
	case api.Install:
		return r.takeInstall(m)
	}
	return nil
}

// Crash loses what was learned of commits since the epoch began; the log itself is kept (P8).
func (r *Replica) Crash() {
	r.commit = r.base
}

// Restart gives a tail its commit again: what a tail has in its log is committed (P8).
func (r *Replica) Restart() {
	if r.isLive() && r.isTail() {
		r.commit = len(r.log)
	}
}

// Status tells how it is with the replica, but for whether it is up (P10).
func (r *Replica) Status() api.Status {
	return api.Status{
		Epoch:   r.epoch,
		Seal:    r.seal,
		Commit:  r.commit,
		Members: slices.Clone(r.members),
		Log:     slices.Clone(r.log),
	}
}

func (r *Replica) isLive() bool {
	return slices.Contains(r.members, r.number) && r.seal <= r.epoch
}

func (r *Replica) isTail() bool {
	_, ok := r.behind()
	return !ok
}

func (r *Replica) isFull() bool {
	return len(r.log) >= api.MaxLog
}

func (r *Replica) behind() (int, bool) {
	return members.Next(r.members, r.number)
}

func (r *Replica) ahead() (int, bool) {
	return members.Previous(r.members, r.number)
}
