package walks

import "signet/api"

// stack is what a walk has of a node to come: whole nodes, each less high than the one ahead of it.
type stack struct {
	nodes []api.Node
	next  int // the leaf that is taken next
	left  int // how many leaves it takes yet
}

func begun(leaf int, leaves int) stack {
	return stack{next: leaf, left: leaves}
}

// take lays down one leaf, if the stack takes one yet.
func (s *stack) take(leaf Leaf, join Join) {
	if s.left == 0 {
		return
	}
	s.nodes = append(s.nodes, api.Node{Number: s.next, Value: leaf(s.next)})
	s.next++
	s.left--
	for s.twins() {
		s.joinLast(join)
	}
}

func (s *stack) twins() bool {
	n := len(s.nodes)
	return n > 1 && s.nodes[n-2].Height == s.nodes[n-1].Height
}

func (s *stack) joinLast(join Join) {
	n := len(s.nodes)
	first, second := s.nodes[n-2], s.nodes[n-1]
	height, number := first.Height+1, first.Number/2
	s.nodes = append(s.nodes[:n-2], api.Node{
		Height: height,
		Number: number,
		Value:  join(height, number, first.Value, second.Value),
	})
}
