package wire

import "cordon/api"

// measure tells the two counts of a body that is long enough for a message
// without lists. ok says that they are allowed and fit its length to the byte:
// whoever reads behind it needs to ask for no length any more.
func measure(body string) (members, entries int, ok bool) {
	members = int(body[headerSize])
	logCount := headerSize + countSize + members*numberSize
	if members > api.MaxReplicas || len(body) <= logCount {
		return 0, 0, false
	}
	entries = int(body[logCount])
	return members, entries, entries <= api.MaxLog && len(body) == bodySize(members, entries)
}

// readBody reads a body that was measured.
func readBody(body string, members, entries int) api.Msg {
	m := api.Msg{
		Kind:    int(body[0]),
		Members: make([]int, members),
		Log:     make([]api.Entry, entries),
	}
	r := reader{body[kindSize:]}
	for _, place := range header(&m) {
		*place = r.number()
	}
	r.skip(countSize)
	for i := range m.Members {
		m.Members[i] = r.number()
	}
	r.skip(countSize)
	for i := range m.Log {
		for _, place := range fields(&m.Log[i]) {
			*place = r.number()
		}
	}
	return m
}

// reader holds what is still to be read.
type reader struct {
	rest string
}

func (r *reader) number() int {
	n := int(r.rest[0])<<8 | int(r.rest[1])
	r.skip(numberSize)
	return n + leastNumber
}

func (r *reader) skip(bytes int) {
	r.rest = r.rest[bytes:]
}
