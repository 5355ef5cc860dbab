// Package walks goes from leaf to leaf of a tree, and makes at each step only a few of the nodes that the paths to come will need.
package walks

import (
	"slices"

	"signet/api"
)

// Leaf makes the leaf of that number.
type Leaf func(number int) string

// Join makes the node of that height and number out of the two below it.
type Join func(height int, number int, first string, second string) string

// Walk knows of its tree the height alone; what a leaf and a join are, the two functions know.
type Walk struct {
	leaf   Leaf
	join   Join
	leaves int
	at     int
	path   []string
	stacks []stack
}

// New begins at the leaf 0. Each leaf of the tree is made once for that.
func New(tall int, leaf Leaf, join Join) *Walk {
	w := &Walk{leaf: leaf, join: join, leaves: 1 << tall}
	first := w.whole(0, 0)
	for h := range tall {
		second := w.whole(h, 1)
		w.path = append(w.path, second.Value)
		w.stacks = append(w.stacks, stack{nodes: []api.Node{first}})
		first = api.Node{Height: h + 1, Value: join(h+1, 0, first.Value, second.Value)}
	}
	return w
}

func (w *Walk) whole(height int, number int) api.Node {
	s := begun(number<<height, 1<<height)
	for s.left > 0 {
		s.take(w.leaf, w.join)
	}
	return s.nodes[0]
}

// At tells the leaf's number.
func (w *Walk) At() int {
	return w.at
}

// Path hands out a copy, as the walk writes into its own.
func (w *Walk) Path() []string {
	return slices.Clone(w.path)
}

// Stack hands out a copy, as the walk writes into its own.
func (w *Walk) Stack(h int) ([]api.Node, api.Errno) {
	if h < 0 || h >= len(w.stacks) {
		return nil, api.ErrArg
	}
	return slices.Clone(w.stacks[h].nodes), api.OK
}

// Next goes to the next leaf.
func (w *Walk) Next() api.Errno {
	if w.at == w.leaves-1 {
		return api.ErrSpent
	}
	w.at++
	for h := range w.stacks {
		if w.at%(1<<h) == 0 {
			w.path[h] = w.stacks[h].nodes[0].Value
			w.stacks[h] = w.anew(h)
		}
	}
	for h := range w.stacks {
		w.stacks[h].take(w.leaf, w.join)
	}
	return api.OK
}

// anew begins the stack of the node that the path has at this height 2 to the power of h leaves further on: the one on the left if the walk is there now, else the one on the right of the next two.
func (w *Walk) anew(h int) stack {
	size := 1 << h
	first := w.at
	if w.at/size%2 == 1 {
		first += 2 * size
	}
	if first >= w.leaves {
		return stack{}
	}
	return begun(first, size)
}
