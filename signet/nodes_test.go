package signet_test

import (
	"fmt"
	"slices"
	"testing"

	"signet/api"
	"signet/signet"
)

func plainLeaf(t *testing.T, c api.Set, seeds api.Seeds, at api.Place) string {
	t.Helper()
	z, _ := signet.Measure(c)
	var ends []string
	for i := range z.Chains {
		at.Chain = i
		x := plainStart(t, c, seeds, at)
		for k := range c.Wide - 1 {
			x = plainStep(t, c, seeds.Public, at, k, x)
		}
		ends = append(ends, x)
	}
	return plainFold(t, c, seeds.Public, at, ends)
}

func plainJoin(t *testing.T, c api.Set, public string, at api.Place, h int, j int, first string, second string) string {
	t.Helper()
	return plainValue(t, c, "\x04", public, in1(at.Layer), in4(at.Tree), in1(h), in1(j), first, second)
}

// plainTree has the nodes of a tree by height and number.
func plainTree(t *testing.T, c api.Set, seeds api.Seeds, at api.Place) [][]string {
	t.Helper()
	var row []string
	for i := range leavesOf(c) {
		at.Leaf = i
		row = append(row, plainLeaf(t, c, seeds, at))
	}
	rows := [][]string{row}
	for h := 1; h <= c.Tall; h++ {
		var next []string
		for j := range len(row) / 2 {
			next = append(next, plainJoin(t, c, seeds.Public, at, h, j, row[2*j], row[2*j+1]))
		}
		row = next
		rows = append(rows, row)
	}
	return rows
}

// besides has the nodes beside the way from a leaf up.
func besides(rows [][]string, leaf int) []string {
	var path []string
	for _, row := range rows[:len(rows)-1] {
		path = append(path, row[leaf^1])
		leaf /= 2
	}
	return path
}

func TestNodeExamples(t *testing.T) {
	for h, row := range [][]string{{"a42754dc", "96fb9c7c", "c5e5cb4d", "62de1fee"}, {"9d6a07c1", "2e3b3fb0"}, {"2841c698"}} {
		for j, want := range row {
			x, e := signet.NodeOf(setA, seedsA, api.Place{}, h, j)
			meetText(t, fmt.Sprint("P9: the node ", h, "/", j), x, e, unhex(t, want), api.OK)
		}
	}
	x, e := signet.NodeOf(setB, seedsB, api.Place{Layer: 1}, 1, 0)
	meetText(t, "P9: B's root", x, e, unhex(t, "6e54c11acf411b87"), api.OK)
	x, e = signet.NodeOf(setB, seedsB, api.Place{Tree: 1}, 1, 0)
	meetText(t, "P9: B, the root of tree 1 of layer 0", x, e, unhex(t, "c64204ef3f05cbc2"), api.OK)
}

func TestNodesAndClimbsOfEverySet(t *testing.T) {
	for _, c := range rightSets() {
		seeds := seedsOf(c)
		places := treePlaces(c)
		for _, at := range []api.Place{places[0], places[len(places)/2], places[len(places)-1]} {
			rows := plainTree(t, c, seeds, at)
			for h, row := range rows {
				for _, j := range some(len(row)) {
					x, e := signet.NodeOf(c, seeds, at, h, j)
					meetText(t, fmt.Sprint("P9: ", c, " at ", at, ", the node ", h, "/", j), x, e, row[j], api.OK)
				}
			}
			for i, leaf := range rows[0] {
				at.Leaf = i
				x, e := signet.Climb(c, seeds.Public, at, leaf, besides(rows, i))
				meetText(t, fmt.Sprint("P10: Climb of ", c, " at ", at), x, e, rows[c.Tall][0], api.OK)
			}
		}
	}
}

func TestNodesOfAWholeTree(t *testing.T) {
	c := api.Set{Kind: 1, Bytes: 4, Wide: 4, Tall: 4, Layers: 3}
	at := api.Place{Layer: 0, Tree: 255}
	for h, row := range plainTree(t, c, seedsOf(c), at) {
		for j, want := range row {
			x, e := signet.NodeOf(c, seedsOf(c), at, h, j)
			meetText(t, fmt.Sprint("P9: the node ", h, "/", j), x, e, want, api.OK)
		}
	}
}

func TestNodeOfRefusesWrongNodes(t *testing.T) {
	for _, c := range rightSets() {
		for _, h := range append([]int{c.Tall + 1, 63, 64, 65}, edges...) {
			for _, j := range append([]int{leavesOf(c)}, edges...) {
				if 0 <= h && h <= c.Tall && 0 <= j && j < leavesOf(c)>>h {
					continue
				}
				x, e := signet.NodeOf(c, seedsOf(c), api.Place{}, h, j)
				meetText(t, fmt.Sprint("P9: ", c, ", the node ", h, "/", j), x, e, "", api.ErrArg)
			}
		}
		for h := range c.Tall + 1 {
			for _, j := range outside(leavesOf(c) >> h) {
				x, e := signet.NodeOf(c, seedsOf(c), api.Place{}, h, j)
				meetText(t, fmt.Sprint("P9: ", c, ", the node ", h, "/", j), x, e, "", api.ErrArg)
			}
		}
	}
}

func TestNodeOfRefusesWrongPlacesAndSeeds(t *testing.T) {
	for _, c := range rightSets() {
		for _, at := range notTrees(c) {
			x, e := signet.NodeOf(c, seedsOf(c), at, 0, 0)
			meetText(t, fmt.Sprint("P9: NodeOf ", c, " at ", at), x, e, "", api.ErrArg)
		}
		for _, seeds := range wrongSeeds(c) {
			x, e := signet.NodeOf(c, seeds, api.Place{}, 0, 0)
			meetText(t, fmt.Sprint("P9: NodeOf ", c, " by wrong seeds"), x, e, "", api.ErrArg)
		}
	}
}

func TestClimbExamples(t *testing.T) {
	x, e := signet.Climb(setA, "cccc", api.Place{Leaf: 2}, unhex(t, "c5e5cb4d"), []string{unhex(t, "62de1fee"), unhex(t, "9d6a07c1")})
	meetText(t, "P10: Climb from the leaf 2", x, e, unhex(t, "2841c698"), api.OK)
	x, e = signet.Climb(setA, "cccc", api.Place{}, unhex(t, "a42754dc"), []string{unhex(t, "96fb9c7c"), unhex(t, "2e3b3fb0")})
	meetText(t, "P10: Climb from the leaf 0", x, e, unhex(t, "2841c698"), api.OK)
}

// TestClimbOfAnyValues: a path need not be that of a tree.
func TestClimbOfAnyValues(t *testing.T) {
	for _, c := range rightSets() {
		public, path := seedsOf(c).Public, someEnds(c)[:c.Tall]
		for _, at := range leafPlaces(c) {
			want := someText(c.Bytes)
			for h := range c.Tall {
				number := at.Leaf
				for range h {
					number /= 2
				}
				if number%2 == 0 {
					want = plainJoin(t, c, public, at, h+1, number/2, want, path[h])
				} else {
					want = plainJoin(t, c, public, at, h+1, number/2, path[h], want)
				}
			}
			x, e := signet.Climb(c, public, at, someText(c.Bytes), path)
			meetText(t, fmt.Sprint("P10: Climb of ", c, " at ", at), x, e, want, api.OK)
		}
	}
}

func TestClimbRefusesWrongPlaces(t *testing.T) {
	for _, c := range rightSets() {
		for _, at := range notLeaves(c) {
			x, e := signet.Climb(c, seedsOf(c).Public, at, someText(c.Bytes), someEnds(c)[:c.Tall])
			meetText(t, fmt.Sprint("P10: Climb of ", c, " at ", at), x, e, "", api.ErrArg)
		}
	}
}

func TestClimbRefusesWrongTexts(t *testing.T) {
	for _, c := range rightSets() {
		public, x, path := seedsOf(c).Public, someText(c.Bytes), someEnds(c)[:c.Tall]
		lists := [][]string{nil, {}, path[1:], someEnds(c)[:c.Tall+1], slices.Repeat(path, 100)}
		for _, wrong := range wrongValues(c) {
			y, e := signet.Climb(c, wrong, api.Place{}, x, path)
			meetText(t, fmt.Sprint("P10: Climb of ", c, ", Public of ", len(wrong)), y, e, "", api.ErrArg)
			y, e = signet.Climb(c, public, api.Place{}, wrong, path)
			meetText(t, fmt.Sprint("P10: Climb of ", c, ", a value of ", len(wrong)), y, e, "", api.ErrArg)
			for i := range path {
				list := slices.Clone(path)
				list[i] = wrong
				lists = append(lists, list)
			}
		}
		for _, list := range lists {
			y, e := signet.Climb(c, public, api.Place{}, x, list)
			meetText(t, fmt.Sprint("P10: Climb of ", c, ", a path of ", len(list)), y, e, "", api.ErrArg)
		}
	}
}
