package trees

import (
	"signet/api"
	"signet/sets"
)

// Start tells where a chain begins.
func Start(c api.Set, seeds api.Seeds, at api.Place) (string, api.Errno) {
	if e := sets.Check(c); e != api.OK {
		return "", e
	}
	if !sets.SeedsRight(c, seeds) || !sets.IsChain(c, at) {
		return "", api.ErrArg
	}
	return spot{c, seeds.Secret, at}.start(), api.OK
}

// Chain goes along a chain.
func Chain(c api.Set, public string, at api.Place, from int, to int, x string) (string, api.Errno) {
	if e := sets.Check(c); e != api.OK {
		return "", e
	}
	if !sets.ValuesRight(c, public, x) || !sets.IsChain(c, at) || from < 0 || from > to || to >= c.Wide {
		return "", api.ErrArg
	}
	return spot{c, public, at}.chain(from, to, x), api.OK
}

// Fold makes a leaf's value out of the ends of its chains.
func Fold(c api.Set, public string, at api.Place, ends []string) (string, api.Errno) {
	z, e := sets.Measure(c)
	if e != api.OK {
		return "", e
	}
	if !sets.ValuesRight(c, public) || !sets.IsLeaf(c, at) || len(ends) != z.Chains || !sets.ValuesRight(c, ends...) {
		return "", api.ErrArg
	}
	return spot{c, public, at}.fold(ends), api.OK
}

// Climb goes from a leaf up to the root.
func Climb(c api.Set, public string, at api.Place, x string, path []string) (string, api.Errno) {
	if e := sets.Check(c); e != api.OK {
		return "", e
	}
	if !sets.ValuesRight(c, public, x) || !sets.IsLeaf(c, at) || len(path) != c.Tall || !sets.ValuesRight(c, path...) {
		return "", api.ErrArg
	}
	return spot{c, public, at}.climb(x, path), api.OK
}

// NodeOf tells the value of a node of a tree.
func NodeOf(c api.Set, seeds api.Seeds, at api.Place, height int, number int) (string, api.Errno) {
	t, e := New(c, seeds, at)
	if e != api.OK {
		return "", e
	}
	if !t.has(height, number) {
		return "", api.ErrArg
	}
	return t.Node(height, number), api.OK
}

// RootBy goes on where Reveal has stopped, and from there up to the root: by these digits, for the leaf at a place that is right. The values and the path have their lengths.
func RootBy(c api.Set, public string, at api.Place, digits []int, values []string, path []string) string {
	leaf := spot{c, public, at}
	ends := make([]string, len(values))
	for i, x := range values {
		at.Chain = i
		ends[i] = spot{c, public, at}.chain(digits[i], c.Wide-1, x)
	}
	return leaf.climb(leaf.fold(ends), path)
}
