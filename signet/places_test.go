package signet_test

import (
	"slices"

	"signet/api"
	"signet/signet"
)

var (
	seedsA = api.Seeds{Secret: "aaaa", Random: "bbbb", Public: "cccc"}
	seedsB = api.Seeds{Secret: "ssssssss", Random: "rrrrrrrr", Public: "pppppppp"}
)

// seedsOf are right for a set, and no two of them are alike.
func seedsOf(c api.Set) api.Seeds {
	return api.Seeds{Secret: "\x00secret!"[:c.Bytes], Random: "random\x00\xff"[:c.Bytes], Public: "\xffpublic\x01"[:c.Bytes]}
}

func wrongSeeds(c api.Set) []api.Seeds {
	var all []api.Seeds
	for _, wrong := range wrongValues(c) {
		for i := range 3 {
			s := seedsOf(c)
			*[]*string{&s.Secret, &s.Random, &s.Public}[i] = wrong
			all = append(all, s)
		}
	}
	return append(all, api.Seeds{})
}

// wrongValues are texts of lengths that a set's values do not have.
func wrongValues(c api.Set) []string {
	var all []string
	for _, n := range []int{0, 1, 3, 4, 5, 7, 8, 9, 16, 1 << 16} {
		if n != c.Bytes {
			all = append(all, someText(n))
		}
	}
	return all
}

func treesOf(c api.Set, layer int) int {
	n := 1
	for range c.Layers - 1 - layer {
		for range c.Tall {
			n *= 2
		}
	}
	return n
}

func leavesOf(c api.Set) int {
	n := 1
	for range c.Tall {
		n *= 2
	}
	return n
}

// some are numbers below n: the first ones, one amid, the last.
func some(n int) []int {
	l := []int{0, 1, n / 2, n - 1}
	slices.Sort(l)
	return slices.DeleteFunc(slices.Compact(l), func(v int) bool { return v >= n })
}

func treePlaces(c api.Set) []api.Place {
	var all []api.Place
	for layer := range c.Layers {
		for _, tree := range some(treesOf(c, layer)) {
			all = append(all, api.Place{Layer: layer, Tree: tree})
		}
	}
	return all
}

func leafPlaces(c api.Set) []api.Place {
	var all []api.Place
	for _, at := range treePlaces(c) {
		for _, leaf := range some(leavesOf(c)) {
			at.Leaf = leaf
			all = append(all, at)
		}
	}
	return all
}

func chainPlaces(c api.Set) []api.Place {
	z, _ := signet.Measure(c)
	var all []api.Place
	for _, at := range leafPlaces(c) {
		for _, chain := range some(z.Chains) {
			at.Chain = chain
			all = append(all, at)
		}
	}
	return all
}

// outside are numbers that are not from 0 to n - 1.
func outside(n int) []int {
	l := []int{n, n + 1, 2 * n, 1 << 8, 1 << 16, 1 << 32, n - 1<<8, n - 1<<32}
	return slices.DeleteFunc(append(l, edges...), func(v int) bool { return 0 <= v && v < n })
}

// wrongPlaces name a layer, tree, leaf or chain that there is not; all else in them is right.
func wrongPlaces(c api.Set) []api.Place {
	z, _ := signet.Measure(c)
	var all []api.Place
	for _, v := range outside(c.Layers) {
		all = append(all, api.Place{Layer: v})
	}
	for layer := range c.Layers {
		for _, v := range outside(treesOf(c, layer)) {
			all = append(all, api.Place{Layer: layer, Tree: v})
		}
	}
	for _, v := range outside(leavesOf(c)) {
		all = append(all, api.Place{Leaf: v})
	}
	for _, v := range outside(z.Chains) {
		all = append(all, api.Place{Chain: v})
	}
	return all
}

// notLeaves are places that are wrong, or right but of a chain further on.
func notLeaves(c api.Set) []api.Place {
	return append(wrongPlaces(c), api.Place{Chain: 1}, api.Place{Leaf: 1, Chain: 1}, api.Place{Layer: c.Layers - 1, Chain: 2})
}

// notTrees are places that are wrong, or right but of a leaf or a chain further on.
func notTrees(c api.Set) []api.Place {
	return append(notLeaves(c), api.Place{Leaf: 1}, api.Place{Leaf: leavesOf(c) - 1}, api.Place{Layer: c.Layers - 1, Leaf: 1})
}
