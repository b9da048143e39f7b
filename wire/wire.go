// Package wire: messages as bytes: see DOC.md.
package wire

import "cordon/api"

// Encode writes a message (P3).
func Encode(m api.Msg) (string, api.Errno) {
	if !hasBytes(m) {
		return "", api.ErrForm
	}
	body := writeBody(m)
	return body + sumBytes(body), api.OK
}

// Decode reads a message (P4).
func Decode(s string) (api.Msg, api.Errno) {
	if len(s) < minFrame {
		return api.Msg{}, api.ErrForm
	}
	body, sum := s[:len(s)-sumSize], s[len(s)-sumSize:]
	if sum != sumBytes(body) {
		return api.Msg{}, api.ErrCorrupt
	}
	members, entries, ok := measure(body)
	if !ok || !isKind(int(body[0])) {
		return api.Msg{}, api.ErrForm
	}
	return readBody(body, members, entries), api.OK
}
