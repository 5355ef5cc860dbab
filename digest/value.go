package digest

import (
	"strings"

	"signet/api"
)

// Value is the document's H, for a set that is right. No text that the program lays together for it is above MaxText, so it cannot be refused.
func Value(c api.Set, tag int, parts ...string) string {
	v, _ := Of(c.Kind, c.Bytes, Number(tag, 1)+strings.Join(parts, ""))
	return v
}

// Number lays the whole number v into k bytes, the highest first.
func Number(v int, k int) string {
	text := make([]byte, k)
	for i := k - 1; i >= 0; i-- {
		text[i] = byte(v)
		v >>= 8
	}
	return string(text)
}

// NumberIn reads back the whole number that Number has laid into a text.
func NumberIn(text string) int {
	v := 0
	for i := range len(text) {
		v = v<<8 | int(text[i])
	}
	return v
}
