package signet_test

import (
	"fmt"
	"slices"
	"strings"
	"testing"

	"signet/api"
	"signet/signet"
)

func newWalk(t *testing.T, c api.Set, seeds api.Seeds, at api.Place) *signet.Walk {
	t.Helper()
	w, e := signet.NewWalk(c, seeds, at)
	if w == nil || e != api.OK {
		t.Fatalf("P11: NewWalk of %v at %v: %v, %d", c, at, w, e)
	}
	return w
}

// called are the nodes of a tree by their names, as in 1/0.
func called(t *testing.T, rows [][]string, names string) []api.Node {
	t.Helper()
	var nodes []api.Node
	for _, name := range strings.Fields(names) {
		var h, j int
		if _, err := fmt.Sscanf(name, "%d/%d", &h, &j); err != nil {
			t.Fatal(err)
		}
		nodes = append(nodes, api.Node{Height: h, Number: j, Value: rows[h][j]})
	}
	return nodes
}

func meetStack(t *testing.T, w *signet.Walk, h int, want []api.Node) {
	t.Helper()
	if l, e := w.Stack(h); !slices.Equal(l, want) || e != api.OK {
		t.Fatalf("P12: at the leaf %d the stack of height %d is %v, %d, want %v", w.At(), h, l, e, want)
	}
}

func TestWalkExample(t *testing.T) {
	rows := plainTree(t, setC, seedsA, api.Place{})
	w := newWalk(t, setC, seedsA, api.Place{})
	for leaf, line := range []string{
		"0/1 1/1 2/1, 0/0, 1/0, 2/0",
		"0/0 1/1 2/1, 0/3, 1/0, 2/0",
		"0/3 1/0 2/1, 0/2, 0/6, 2/0",
		"0/2 1/0 2/1, 0/5, 1/3, 2/0",
		"0/5 1/3 2/0, 0/4, 0/4, ",
		"0/4 1/3 2/0, 0/7, 1/2, ",
		"0/7 1/2 2/0, 0/6, , ",
		"0/6 1/2 2/0, , , ",
	} {
		if leaf > 0 {
			if e := w.Next(); e != api.OK {
				t.Fatalf("P12: Next to the leaf %d answers %d", leaf, e)
			}
		}
		if w.At() != leaf {
			t.Fatalf("P11: At() = %d, want %d", w.At(), leaf)
		}
		parts := strings.Split(line, ",")
		for h, x := range called(t, rows, parts[0]) {
			if p := w.Path(); len(p) != 3 || p[h] != x.Value {
				t.Fatalf("P11: at the leaf %d: the path is %x, want %s", leaf, p, parts[0])
			}
		}
		for h := range 3 {
			meetStack(t, w, h, called(t, rows, parts[h+1]))
		}
	}
	if e := w.Next(); e != api.ErrSpent {
		t.Errorf("P12: Next at the last leaf answers %d", e)
	}
}

// plainStack tells what a stack holds at a leaf, without going there: whole nodes as great as they fit, out of the leaves taken since it was begun.
func plainStack(rows [][]string, h int, leaf int) []api.Node {
	size := 1 << h
	begun := leaf / size * size
	if begun == 0 {
		return []api.Node{{Height: h, Value: rows[h][0]}}
	}
	first := begun
	if begun/size%2 == 1 {
		first += 2 * size
	}
	if first >= len(rows[0]) {
		return nil
	}
	var nodes []api.Node
	for taken := leaf - begun + 1; taken > 0; {
		height := 0
		for 2<<height <= taken {
			height++
		}
		j := first >> height
		nodes = append(nodes, api.Node{Height: height, Number: j, Value: rows[height][j]})
		first += 1 << height
		taken -= 1 << height
	}
	return nodes
}

func TestWalksOfEverySet(t *testing.T) {
	for _, c := range rightSets() {
		seeds := seedsOf(c)
		places := treePlaces(c)
		for _, at := range []api.Place{places[0], places[len(places)-1]} {
			rows := plainTree(t, c, seeds, at)
			w := newWalk(t, c, seeds, at)
			for leaf := range leavesOf(c) {
				meetWalk(t, w, c, rows, leaf)
				last := leaf == leavesOf(c)-1
				if e := w.Next(); (e == api.OK) == last || e != api.OK && e != api.ErrSpent {
					t.Fatalf("P12: %v: Next at the leaf %d answers %d", c, leaf, e)
				}
			}
			for range 3 {
				if e := w.Next(); e != api.ErrSpent {
					t.Fatalf("P12: %v: Next at the last leaf answers %d", c, e)
				}
				meetWalk(t, w, c, rows, leavesOf(c)-1)
			}
		}
	}
}

func meetWalk(t *testing.T, w *signet.Walk, c api.Set, rows [][]string, leaf int) {
	t.Helper()
	if w.At() != leaf {
		t.Fatalf("P11: %v: At() = %d, want %d", c, w.At(), leaf)
	}
	path := w.Path()
	if !slices.Equal(path, besides(rows, leaf)) {
		t.Fatalf("P11: %v: at the leaf %d: Path() = %x, want %x", c, leaf, path, besides(rows, leaf))
	}
	for h := range c.Tall {
		meetStack(t, w, h, plainStack(rows, h, leaf))
	}
}

func TestPathsLeadToTheRoot(t *testing.T) {
	c := api.Set{Kind: 2, Bytes: 8, Wide: 16, Tall: 4, Layers: 2}
	seeds, at := seedsOf(c), api.Place{Tree: 15}
	root, _ := signet.NodeOf(c, seeds, at, 4, 0)
	w := newWalk(t, c, seeds, at)
	for i := range 16 {
		leaf, _ := signet.NodeOf(c, seeds, at, 0, i)
		there := at
		there.Leaf = i
		x, e := signet.Climb(c, seeds.Public, there, leaf, w.Path())
		meetText(t, fmt.Sprint("P11: Climb from the leaf ", i), x, e, root, api.OK)
		w.Next()
	}
}

func TestStackRefusesWrongHeights(t *testing.T) {
	for _, c := range rightSets() {
		w := newWalk(t, c, seedsOf(c), api.Place{})
		for _, h := range append(outside(c.Tall), 63, 64, 65) {
			if l, e := w.Stack(h); l != nil || e != api.ErrArg {
				t.Fatalf("P12: %v: Stack(%d) = %v, %d", c, h, l, e)
			}
		}
	}
}

func TestNewWalkRefuses(t *testing.T) {
	for _, c := range rightSets() {
		for _, at := range notTrees(c) {
			if w, e := signet.NewWalk(c, seedsOf(c), at); w != nil || e != api.ErrArg {
				t.Fatalf("P11: NewWalk of %v at %v: %v, %d", c, at, w, e)
			}
		}
		for _, seeds := range wrongSeeds(c) {
			if w, e := signet.NewWalk(c, seeds, api.Place{}); w != nil || e != api.ErrArg {
				t.Fatalf("P11: NewWalk of %v by wrong seeds: %v, %d", c, w, e)
			}
		}
	}
	for _, c := range wrongSets() {
		if w, e := signet.NewWalk(c, api.Seeds{}, api.Place{Layer: -1}); w != nil || e != api.ErrSet {
			t.Fatalf("P11: NewWalk of %v: %v, %d", c, w, e)
		}
	}
}

func TestWalksHaveNothingToDoWithOneAnother(t *testing.T) {
	rows := plainTree(t, setC, seedsA, api.Place{})
	first := newWalk(t, setC, seedsA, api.Place{})
	second := newWalk(t, setC, seedsA, api.Place{})
	for range 5 {
		first.Next()
	}
	meetWalk(t, second, setC, rows, 0)
	third := newWalk(t, setC, seedsA, api.Place{})
	second.Next()
	second.Next()
	meetWalk(t, first, setC, rows, 5)
	meetWalk(t, second, setC, rows, 2)
	meetWalk(t, third, setC, rows, 0)
}

func TestListsOfAWalkAreTheCallers(t *testing.T) {
	rows := plainTree(t, setC, seedsA, api.Place{})
	w := newWalk(t, setC, seedsA, api.Place{})
	for leaf := range 8 {
		held := w.Path()
		spoil(w.Path(), "spoiled")
		var stacks [][]api.Node
		for h := range 3 {
			l, _ := w.Stack(h)
			stacks = append(stacks, l)
			again, _ := w.Stack(h)
			spoil(again, api.Node{Height: -7})
		}
		meetWalk(t, w, setC, rows, leaf)
		w.Next()
		if !slices.Equal(held, besides(rows, leaf)) {
			t.Fatalf("P2: a path of the leaf %d has changed: %x", leaf, held)
		}
		for h, l := range stacks {
			if !slices.Equal(l, plainStack(rows, h, leaf)) {
				t.Fatalf("P2: the stack of height %d of the leaf %d has changed: %v", h, leaf, l)
			}
		}
		spoil(held, "spoiled")
		for _, l := range stacks {
			spoil(l, api.Node{Height: -7})
		}
	}
	meetWalk(t, w, setC, rows, 7)
}
