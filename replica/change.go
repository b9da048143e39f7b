package replica

import (
	"slices"

	"cordon/api"
)

// takeSeal answers a master of an epoch that is settled too, without being
// sealed by it: that one finds out from the acceptors that it is late.
func (r *Replica) takeSeal(m api.Msg) []api.Msg {
	if m.Epoch > r.epoch+1 {
		return nil
	}
	if m.Epoch == r.epoch+1 {
		r.seal = m.Epoch
	}
	return []api.Msg{{
		Kind:   api.Sealed,
		From:   r.number,
		To:     m.From,
		Epoch:  m.Epoch,
		Ballot: m.Ballot,
		Log:    slices.Clone(r.log),
	}}
}

// takeInstall answers in any case: the answer to an earlier one may be lost.
func (r *Replica) takeInstall(m api.Msg) []api.Msg {
	if m.Epoch > r.epoch {
		r.begin(m)
	}
	return []api.Msg{{Kind: api.Installed, From: r.number, To: m.From, Epoch: m.Epoch}}
}

func (r *Replica) begin(m api.Msg) {
	r.epoch = m.Epoch
	r.members = slices.Clone(m.Members)
	r.log = slices.Clone(m.Log)
	r.base = len(r.log)
	r.commit = len(r.log)
}
