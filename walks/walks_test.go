package walks_test

import (
	"strconv"
	"testing"

	"signet/api"
	"signet/walks"
)

// names makes nodes of names instead of digests, and counts the leaves.
type names struct{ leaves int }

func (n *names) leaf(number int) string {
	n.leaves++
	return name(0, number)
}

func name(height int, number int) string {
	return strconv.Itoa(height) + "/" + strconv.Itoa(number)
}

func (n *names) join(height int, number int, first string, second string) string {
	if first != name(height-1, 2*number) || second != name(height-1, 2*number+1) {
		return "wrong"
	}
	return name(height, number)
}

func TestWalkKnowsOnlyTheFunctions(t *testing.T) {
	for tall := 1; tall <= 7; tall++ {
		n := &names{}
		w := walks.New(tall, n.leaf, n.join)
		if n.leaves > 1<<tall {
			t.Errorf("P12: height %d: %d leaves are made at the beginning", tall, n.leaves)
		}
		for leaf := range 1 << tall {
			for h, x := range w.Path() {
				if want := name(h, leaf>>h^1); x != want {
					t.Fatalf("P11: height %d, leaf %d: path has %s, want %s", tall, leaf, x, want)
				}
			}
			n.leaves = 0
			e := w.Next()
			if last := leaf == 1<<tall-1; last != (e == api.ErrSpent) {
				t.Fatalf("P12: height %d, leaf %d: Next answers %d", tall, leaf, e)
			}
			if n.leaves > tall {
				t.Errorf("P12: height %d, leaf %d: a step makes %d leaves", tall, leaf, n.leaves)
			}
			if e != api.OK && n.leaves > 0 {
				t.Errorf("P12: height %d: %d leaves are made behind the last step", tall, n.leaves)
			}
		}
	}
}
