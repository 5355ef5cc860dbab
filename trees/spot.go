// Package trees makes the values of chains, leaves and nodes.
package trees

import (
	"slices"
	"strings"

	"signet/api"
	"signet/digest"
)

// The tags keep apart what is digested for different ends.
const (
	tagStart = 1
	tagStep  = 2
	tagFold  = 3
	tagJoin  = 4
)

// spot is a seed at a place: what goes into every digest that is made there, so that no two places share one. Its set and its place are right.
type spot struct {
	set  api.Set
	seed string
	at   api.Place
}

func (s spot) ofTree(tag int, parts ...string) string {
	return digest.Value(s.set, tag, s.seed, one(s.at.Layer), digest.Number(s.at.Tree, 4), strings.Join(parts, ""))
}

func (s spot) ofLeaf(tag int, parts ...string) string {
	return s.ofTree(tag, one(s.at.Leaf), strings.Join(parts, ""))
}

func (s spot) start() string {
	return s.ofLeaf(tagStart, one(s.at.Chain))
}

func (s spot) chain(from int, to int, x string) string {
	for k := from; k < to; k++ {
		x = s.ofLeaf(tagStep, one(s.at.Chain), one(k), x)
	}
	return x
}

func (s spot) fold(ends []string) string {
	values := ends
	for round := 0; len(values) > 1; round++ {
		values = s.paired(round, values)
	}
	return values[0]
}

// paired makes a new list, as the first one is the caller's.
func (s spot) paired(round int, values []string) []string {
	var fewer []string
	for pair := range slices.Chunk(values, 2) {
		x := pair[0]
		if len(pair) == 2 {
			x = s.ofLeaf(tagFold, one(round), one(len(fewer)), pair[0], pair[1])
		}
		fewer = append(fewer, x)
	}
	return fewer
}

func (s spot) join(height int, number int, first string, second string) string {
	return s.ofTree(tagJoin, one(height), one(number), first, second)
}

func (s spot) climb(x string, path []string) string {
	number := s.at.Leaf
	for h, beside := range path {
		first, second := x, beside
		if number%2 == 1 {
			first, second = beside, x
		}
		number /= 2
		x = s.join(h+1, number, first, second)
	}
	return x
}

func one(v int) string {
	return digest.Number(v, 1)
}
