package replica

import (
	"cordon/api"
	"cordon/entries"
)

func (r *Replica) takeRequest(m api.Msg) []api.Msg {
	if len(m.Log) != 1 || !r.isLive() {
		return nil
	}
	if head := r.members[0]; head != r.number {
		return []api.Msg{{Kind: api.Request, From: r.number, To: head, Log: m.Log}}
	}
	return r.takeAsHead(m.Log[0])
}

func (r *Replica) takeAsHead(e api.Entry) []api.Msg {
	if place, ok := entries.Find(r.log, e.Client, e.Seq); ok {
		return r.replyAgain(place)
	}
	if r.isFull() || entries.HasLater(r.log, e.Client, e.Seq) {
		return nil
	}
	return r.put(e)
}

// replyAgain answers nothing ahead of the commit: till then the entry may still be lost.
func (r *Replica) replyAgain(place int) []api.Msg {
	if place >= r.commit {
		return nil
	}
	return []api.Msg{r.reply(place)}
}

func (r *Replica) reply(place int) api.Msg {
	e := r.log[place]
	return api.Msg{
		Kind:  api.Reply,
		From:  r.number,
		To:    api.Client + e.Client,
		Pos:   e.Seq,
		Value: entries.Answer(r.log, place),
	}
}
