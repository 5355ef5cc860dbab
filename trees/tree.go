package trees

import (
	"slices"

	"signet/api"
	"signet/sets"
)

// Tree is one tree of a key, for those who have the key's seeds. It holds no node: each is made when it is asked for.
type Tree struct {
	set    api.Set
	seeds  api.Seeds
	at     api.Place
	chains int
}

// New tells of the tree at a place, if the set, the seeds and the place are right.
func New(c api.Set, seeds api.Seeds, at api.Place) (Tree, api.Errno) {
	z, e := sets.Measure(c)
	if e != api.OK {
		return Tree{}, e
	}
	if !sets.SeedsRight(c, seeds) || !sets.IsTree(c, at) {
		return Tree{}, api.ErrArg
	}
	return Tree{set: c, seeds: seeds, at: at, chains: z.Chains}, api.OK
}

// Leaf makes the leaf of that number.
func (t Tree) Leaf(number int) string {
	all := slices.Repeat([]int{t.set.Wide - 1}, t.chains)
	return t.spotOf(t.seeds.Public, number, 0).fold(t.Reveal(number, all))
}

// Reveal goes along each chain of a leaf as far as its digit says. Whoever sees a value can go on from there, but not back.
func (t Tree) Reveal(leaf int, digits []int) []string {
	values := make([]string, len(digits))
	for i, digit := range digits {
		first := t.spotOf(t.seeds.Secret, leaf, i).start()
		values[i] = t.spotOf(t.seeds.Public, leaf, i).chain(0, digit, first)
	}
	return values
}

// Path makes the nodes that lie beside the way from a leaf up to the root.
func (t Tree) Path(leaf int) []string {
	path := make([]string, t.set.Tall)
	for h := range path {
		path[h] = t.Node(h, leaf>>h^1)
	}
	return path
}

// Root makes the node above all others.
func (t Tree) Root() string {
	return t.Node(t.set.Tall, 0)
}

func (t Tree) spotOf(seed string, leaf int, chain int) spot {
	at := t.at
	at.Leaf, at.Chain = leaf, chain
	return spot{t.set, seed, at}
}

// Join makes the node of that height and number out of the two below it.
func (t Tree) Join(height int, number int, first string, second string) string {
	return spot{t.set, t.seeds.Public, t.at}.join(height, number, first, second)
}

// Node makes the node of that height and number.
func (t Tree) Node(height int, number int) string {
	if height == 0 {
		return t.Leaf(number)
	}
	return t.Join(height, number, t.Node(height-1, 2*number), t.Node(height-1, 2*number+1))
}

// has asks for the height first: by a wrong one there is no telling how many nodes there are.
func (t Tree) has(height int, number int) bool {
	return 0 <= height && height <= t.set.Tall && 0 <= number && number < sets.Leaves(t.set)>>height
}
