// Package digest makes digests and check sums of texts.
package digest

import (
	"math/bits"

	"signet/api"
)

// word allows the two kinds of words, so that all below is written once for both.
type word interface {
	uint32 | uint64
}

type words[W word] [8]W

// taken is how many words go in ahead of each stirring, and how many come out at the end.
const taken = 4

// turns holds one number of bits for each of the upper words.
var turns = [taken]int{5, 11, 19, 26}

// Of answers ErrArg ahead of ErrLong where both apply.
func Of(kind int, n int, s string) (string, api.Errno) {
	if kind != api.Short && kind != api.Long || n < 1 || n > api.MaxDigest {
		return "", api.ErrArg
	}
	if len(s) > api.MaxText {
		return "", api.ErrLong
	}
	if kind == api.Short {
		return whole[uint32](s)[:n], api.OK
	}
	return whole[uint64](s)[:n], api.OK
}

func whole[W word](s string) string {
	a := words[W]{1, 2, 3, 4, 5, 6, 7, 8}
	block := taken * size[W]()
	for text := padded(s, block); len(text) > 0; text = text[block:] {
		a.take(text[:block])
		a.stir()
	}
	return a.text()
}

// padded marks the end of s even where s fills its blocks, so that no two texts are padded to one.
func padded(s string, block int) []byte {
	text := make([]byte, (len(s)/block+1)*block)
	copy(text, s)
	text[len(s)] = 1
	return text
}

func (a *words[W]) take(block []byte) {
	n := size[W]()
	for i := range taken {
		a[i] ^= read[W](block[i*n : (i+1)*n])
	}
}

func (a *words[W]) stir() {
	for round := range api.Rounds {
		a.mix()
		a[4], a[5], a[6], a[7] = a[5], a[6], a[7], a[4]
		a[0] ^= W(round + 1)
	}
}

func (a *words[W]) mix() {
	for i := range taken {
		j := i + taken
		a[i] += a[j]
		a[j] = turned(a[j], turns[i]) ^ a[i]
	}
}

func (a *words[W]) text() string {
	n := size[W]()
	text := make([]byte, 0, taken*n)
	for i := range taken {
		for k := n - 1; k >= 0; k-- {
			text = append(text, byte(a[i]>>(8*k)))
		}
	}
	return string(text)
}

func read[W word](b []byte) W {
	var x W
	for _, c := range b {
		x = x<<8 | W(c)
	}
	return x
}

func turned[W word](x W, k int) W {
	return x<<k | x>>(8*size[W]()-k)
}

// size counts the bytes of a word by its bits, as a type parameter has no constant size.
func size[W word]() int {
	return bits.Len64(uint64(^W(0))) / 8
}
