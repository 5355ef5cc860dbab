package signatures

import (
	"slices"

	"signet/api"
	"signet/digest"
	"signet/keys"
	"signet/sets"
	"signet/trees"
)

// The tags keep apart what is digested for different ends.
const (
	tagRandom  = 5
	tagMessage = 6
)

// Sign makes the signature of a message under an index. Key, seeds and index belong together and the message is not too long, so no call below can be refused.
func Sign(k keys.Key, seeds api.Seeds, index int, msg string) string {
	random := digest.Value(k.Set, tagRandom, seeds.Random, digest.Number(index, indexLen))
	p := api.Parsed{Index: index, Random: random}
	m := mixed(k, p, msg)
	for layer := range k.Set.Layers {
		at := sets.Signing(k.Set, index, layer)
		tree, _ := trees.New(k.Set, seeds, api.Place{Layer: at.Layer, Tree: at.Tree})
		digits, _ := sets.Digits(k.Set, m)
		values, path := tree.Reveal(at.Leaf, digits), tree.Path(at.Leaf)
		p.Parts = slices.Concat(p.Parts, values, path)
		m = trees.RootBy(k.Set, k.Public, at, digits, values, path)
	}
	sig, _ := Join(k.Set, p)
	return sig
}

// Verify tells whether a signature is a message's, by a key.
func Verify(key string, msg string, sig string) api.Errno {
	k, e := keys.In(key)
	if e != api.OK {
		return e
	}
	if len(msg) > api.MaxMessage {
		return api.ErrLong
	}
	p, e := Split(k.Set, sig)
	if e != api.OK {
		return e
	}
	if rootBy(k, p, msg) != k.Root {
		return api.ErrWrong
	}
	return api.OK
}

// rootBy tells the root of the top layer that comes of a signature's parts.
func rootBy(k keys.Key, p api.Parsed, msg string) string {
	each := len(p.Parts) / k.Set.Layers
	m := mixed(k, p, msg)
	for layer := range k.Set.Layers {
		at := sets.Signing(k.Set, p.Index, layer)
		digits, _ := sets.Digits(k.Set, m)
		parts := p.Parts[layer*each : (layer+1)*each]
		m = trees.RootBy(k.Set, k.Public, at, digits, parts[:len(digits)], parts[len(digits):])
	}
	return m
}

// mixed is what layer 0 signs instead of the message. The key and the index go into it, so that it serves for no other key and no other index.
func mixed(k keys.Key, p api.Parsed, msg string) string {
	return digest.Value(k.Set, tagMessage, p.Random, k.Root, k.Public, digest.Number(p.Index, indexLen), msg)
}
