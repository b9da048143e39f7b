package master

import (
	"slices"

	"cordon/api"
)

// quorum is so many acceptors that any two such groups have one in common.
const quorum = api.Acceptors/2 + 1

// question is what the master sends for what it does now, to whomever.
func (m *Master) question() api.Msg {
	switch m.doing {
	case reads:
		return api.Msg{Kind: api.Read, Ballot: m.ballot()}
	case seals:
		return api.Msg{Kind: api.Seal, Epoch: m.epoch, Ballot: m.ballot()}
	case prepares:
		return api.Msg{Kind: api.Prepare, Epoch: m.epoch, Ballot: m.ballot()}
	case asksForVotes:
		return api.Msg{Kind: api.Accept, Epoch: m.epoch, Ballot: m.ballot(), Members: slices.Clone(m.members), Log: slices.Clone(m.log)}
	case installs:
		return api.Msg{Kind: api.Install, Epoch: m.epoch, Members: slices.Clone(m.members), Log: slices.Clone(m.log)}
	}
	return api.Msg{Kind: api.Write, Epoch: m.epoch, Members: slices.Clone(m.members)}
}

// isAnswer tells whether this is an answer to the question of now: what was
// asked in an earlier change is answered late, and says nothing of this one.
func (m *Master) isAnswer(answer api.Msg) bool {
	ofBallot := answer.Ballot == m.ballot()
	ofEpoch := answer.Epoch == m.epoch
	switch m.doing {
	case reads:
		return answer.Kind == api.Register && ofBallot
	case seals:
		return answer.Kind == api.Sealed && ofEpoch && ofBallot
	case prepares:
		return answer.Kind == api.Promise && ofEpoch && ofBallot
	case asksForVotes:
		return answer.Kind == api.Accepted && ofEpoch && ofBallot
	case installs:
		return answer.Kind == api.Installed && ofEpoch
	case writes:
		return answer.Kind == api.Written && ofEpoch
	}
	return false
}

// hasEnough tells whether so many have answered that the thing is done.
func (m *Master) hasEnough() bool {
	switch m.doing {
	case seals:
		return true
	case installs:
		return len(m.waits) == 0
	}
	return len(m.waits) <= api.Acceptors-quorum
}

// learn keeps what an answer tells.
func (m *Master) learn(answer api.Msg) {
	switch m.doing {
	case reads:
		m.learnRegister(answer)
	case seals:
		m.log = slices.Clone(answer.Log)
	case prepares:
		m.learnVote(answer)
	}
}

// learnRegister keeps the register of the greatest epoch, of two of the same
// the first one. The epoch of a change is 0 till then: every register is above.
func (m *Master) learnRegister(answer api.Msg) {
	if next := answer.Epoch + 1; next > m.epoch {
		m.epoch = next
		m.old = slices.Clone(answer.Members)
	}
}

// learnVote gives up what the master wants for what may be settled already.
func (m *Master) learnVote(answer api.Msg) {
	if answer.Vote > m.vote {
		m.vote = answer.Vote
		m.members = slices.Clone(answer.Members)
		m.log = slices.Clone(answer.Log)
	}
}
