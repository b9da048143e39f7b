package wire

// polynomial is CRC-32's, its lowest power in the highest bit.
const polynomial uint32 = 0xedb88320

// checksum goes bit by bit: a table of 256 words is more than the program may keep.
func checksum(s string) uint32 {
	c := ^uint32(0)
	for i := range len(s) {
		c ^= uint32(s[i])
		for range 8 {
			c = shift(c)
		}
	}
	return ^c
}

func shift(c uint32) uint32 {
	if c&1 == 1 {
		return c>>1 ^ polynomial
	}
	return c >> 1
}

// sumBytes is the sum as it stands at the end of a frame.
func sumBytes(body string) string {
	c := checksum(body)
	return string([]byte{byte(c), byte(c >> 8), byte(c >> 16), byte(c >> 24)})
}
