package digest

// pattern is CRC-32's polynomial with its bits reversed, as the lowest bit is shifted out first.
const pattern = 0xEDB88320

// Sum is CRC-32 by single bits: the texts are short, so a table would not pay.
func Sum(s string) int {
	v := ^uint32(0)
	for i := range len(s) {
		v = shifted(v ^ uint32(s[i]))
	}
	return int(^v)
}

func shifted(v uint32) uint32 {
	for range 8 {
		low := v & 1
		v >>= 1
		if low == 1 {
			v ^= pattern
		}
	}
	return v
}
