// Package signatures makes signatures, takes them apart and verifies them. It knows nothing of which indices are used up.
package signatures

import (
	"strings"

	"signet/api"
	"signet/digest"
	"signet/sets"
)

// indexLen is how many bytes tell the index.
const indexLen = 4

// Split reads a signature's parts.
func Split(c api.Set, sig string) (api.Parsed, api.Errno) {
	z, e := sets.Measure(c)
	if e != api.OK {
		return api.Parsed{}, e
	}
	if len(sig) != z.Sig {
		return api.Parsed{}, api.ErrForm
	}
	index := digest.NumberIn(sig[:indexLen])
	if !sets.IsIndex(c, index) {
		return api.Parsed{}, api.ErrForm
	}
	partsAt := indexLen + c.Bytes
	return api.Parsed{Index: index, Random: sig[indexLen:partsAt], Parts: cut(sig[partsAt:], c.Bytes)}, api.OK
}

// Join lays a signature's parts together.
func Join(c api.Set, p api.Parsed) (string, api.Errno) {
	z, e := sets.Measure(c)
	if e != api.OK {
		return "", e
	}
	if !sets.IsIndex(c, p.Index) || len(p.Parts) != c.Layers*(z.Chains+c.Tall) ||
		!sets.ValuesRight(c, p.Random) || !sets.ValuesRight(c, p.Parts...) {
		return "", api.ErrForm
	}
	return digest.Number(p.Index, indexLen) + p.Random + strings.Join(p.Parts, ""), api.OK
}

func cut(text string, size int) []string {
	pieces := make([]string, len(text)/size)
	for i := range pieces {
		pieces[i] = text[i*size : (i+1)*size]
	}
	return pieces
}
