package replica

import (
	"cordon/api"
	"cordon/entries"
)

// Tick sends again what a neighbour may have missed (P13).
func (r *Replica) Tick() []api.Msg {
	if !r.isLive() {
		return nil
	}
	next, ok := r.behind()
	if !ok {
		return r.ackAhead()
	}
	var sent []api.Msg
	for place := range entries.From(r.log, r.commit) {
		sent = append(sent, r.forward(next, place))
	}
	return sent
}

// put lays an entry behind a log that has room.
func (r *Replica) put(e api.Entry) []api.Msg {
	r.log = append(r.log, e)
	next, ok := r.behind()
	if !ok {
		return r.commitAll()
	}
	return []api.Msg{r.forward(next, len(r.log)-1)}
}

// commitAll is the tail's alone: what has come to it stands in all logs.
func (r *Replica) commitAll() []api.Msg {
	var sent []api.Msg
	for place := range entries.From(r.log, r.commit) {
		sent = append(sent, r.reply(place))
	}
	r.commit = len(r.log)
	return append(sent, r.ackAhead()...)
}

func (r *Replica) takeForward(m api.Msg) []api.Msg {
	ahead, ok := r.ahead()
	if !ok || m.From != ahead || len(m.Log) != 1 || !r.isOfNow(m) {
		return nil
	}
	switch {
	case m.Pos == len(r.log) && !r.isFull():
		return r.put(m.Log[0])
	case m.Pos < len(r.log) && (r.isTail() || m.Pos < r.commit):
		return r.ackAhead()
	}
	return nil
}

func (r *Replica) takeAck(m api.Msg) []api.Msg {
	next, ok := r.behind()
	if !ok || m.From != next || !r.isOfNow(m) {
		return nil
	}
	if m.Pos <= r.commit || m.Pos > len(r.log) {
		return nil
	}
	r.commit = m.Pos
	return r.ackAhead()
}

// isOfNow keeps out what neighbours of another epoch say: their places are not those of this log.
func (r *Replica) isOfNow(m api.Msg) bool {
	return r.isLive() && m.Epoch == r.epoch
}

func (r *Replica) forward(next, place int) api.Msg {
	return api.Msg{
		Kind:  api.Forward,
		From:  r.number,
		To:    next,
		Epoch: r.epoch,
		Pos:   place,
		Log:   []api.Entry{r.log[place]},
	}
}

// ackAhead tells the commit to the one ahead, if there is one.
func (r *Replica) ackAhead() []api.Msg {
	ahead, ok := r.ahead()
	if !ok {
		return nil
	}
	return []api.Msg{{Kind: api.Ack, From: r.number, To: ahead, Epoch: r.epoch, Pos: r.commit}}
}
