package wire

import "cordon/api"

// hasBytes looks at the lengths ahead of the lists, so that lists of any
// length are told at once.
func hasBytes(m api.Msg) bool {
	if !isKind(m.Kind) || len(m.Members) > api.MaxReplicas || len(m.Log) > api.MaxLog {
		return false
	}
	for _, n := range header(&m) {
		if !fits(*n) {
			return false
		}
	}
	for _, n := range m.Members {
		if !fits(n) {
			return false
		}
	}
	for n := range logNumbers(m.Log) {
		if !fits(n) {
			return false
		}
	}
	return true
}

// writeBody writes a message that has bytes, all but the sum.
func writeBody(m api.Msg) string {
	b := make([]byte, 0, bodySize(len(m.Members), len(m.Log)))
	b = append(b, byte(m.Kind))
	for _, n := range header(&m) {
		b = appendNumber(b, *n)
	}
	b = append(b, byte(len(m.Members)))
	for _, n := range m.Members {
		b = appendNumber(b, n)
	}
	b = append(b, byte(len(m.Log)))
	for n := range logNumbers(m.Log) {
		b = appendNumber(b, n)
	}
	return string(b)
}

func appendNumber(b []byte, n int) []byte {
	written := n - leastNumber
	return append(b, byte(written>>8), byte(written))
}
