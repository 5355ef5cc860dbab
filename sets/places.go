package sets

import "signet/api"

// What is asked here is asked of a set that is right: by any other the numbers of trees and leaves may be beyond what can be worked out.

// SeedsRight tells whether seeds are right for a set.
func SeedsRight(c api.Set, s api.Seeds) bool {
	return ValuesRight(c, s.Secret, s.Random, s.Public)
}

// ValuesRight tells whether each text has the length of a value.
func ValuesRight(c api.Set, texts ...string) bool {
	for _, x := range texts {
		if len(x) != c.Bytes {
			return false
		}
	}
	return true
}

// IsChain tells whether there is such a layer, tree, leaf and chain.
func IsChain(c api.Set, at api.Place) bool {
	z, e := Measure(c)
	return e == api.OK && isLeafOf(c, at) && within(at.Chain, z.Chains)
}

// IsLeaf tells whether this is the place of a leaf.
func IsLeaf(c api.Set, at api.Place) bool {
	return isLeafOf(c, at) && at.Chain == 0
}

// IsTree tells whether this is the place of a tree.
func IsTree(c api.Set, at api.Place) bool {
	return IsLeaf(c, at) && at.Leaf == 0
}

func isLeafOf(c api.Set, at api.Place) bool {
	return within(at.Layer, c.Layers) && within(at.Tree, trees(c, at.Layer)) && within(at.Leaf, Leaves(c))
}

// IsIndex tells whether the set has this index.
func IsIndex(c api.Set, index int) bool {
	z, e := Measure(c)
	return e == api.OK && within(index, z.Total)
}

// Signing tells the leaf that signs in a layer under an index. The leaves of a layer, counted through all its trees, are the trees of the layer below.
func Signing(c api.Set, index int, layer int) api.Place {
	number := index >> (c.Tall * layer)
	return api.Place{Layer: layer, Tree: number / Leaves(c), Leaf: number % Leaves(c)}
}

// Leaves tells how many leaves a tree has.
func Leaves(c api.Set) int {
	return 1 << c.Tall
}

// trees tells how many trees a layer has: one at the top, LEAVES times as many in each layer below.
func trees(c api.Set, layer int) int {
	return 1 << (c.Tall * (c.Layers - 1 - layer))
}

func within(v int, bound int) bool {
	return 0 <= v && v < bound
}
