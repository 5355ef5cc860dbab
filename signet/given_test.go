package signet_test

import (
	"encoding/hex"
	"math"
	"testing"

	"signet/api"
)

var (
	setA = api.Set{Kind: 1, Bytes: 4, Wide: 16, Tall: 2, Layers: 1}
	setB = api.Set{Kind: 2, Bytes: 8, Wide: 4, Tall: 1, Layers: 2}
	setC = api.Set{Kind: 1, Bytes: 4, Wide: 4, Tall: 3, Layers: 1}
)

// edges are numbers about which a bound may lie, and those at which arithmetic may go over.
var edges = []int{
	math.MinInt, math.MinInt + 1, math.MinInt32, -256, -16, -8, -4, -2, -1,
	0, 1, 2, 3, 4, 5, 6, 7, 8, 9, 15, 16, 17, 18, 32, 255, 256,
	math.MaxInt32, math.MaxUint32, math.MaxInt - 1, math.MaxInt,
}

func unhex(t *testing.T, digits string) string {
	t.Helper()
	b, err := hex.DecodeString(digits)
	if err != nil {
		t.Fatal(err)
	}
	return string(b)
}

// rightSets are all the sets that there are.
func rightSets() []api.Set {
	var all []api.Set
	for _, kind := range []int{1, 2} {
		for _, size := range []int{4, 8} {
			for _, wide := range []int{4, 16} {
				for _, tall := range []int{1, 2, 3, 4} {
					for _, layers := range []int{1, 2, 3} {
						all = append(all, api.Set{Kind: kind, Bytes: size, Wide: wide, Tall: tall, Layers: layers})
					}
				}
			}
		}
	}
	return all
}

// wrongSets differ in one number from a right one, by each of the edges that is not allowed there.
func wrongSets() []api.Set {
	var all []api.Set
	for _, c := range []api.Set{setA, setB, setC} {
		for _, v := range edges {
			if v != 1 && v != 2 {
				w := c
				w.Kind = v
				all = append(all, w)
			}
			if v != 4 && v != 8 {
				w := c
				w.Bytes = v
				all = append(all, w)
			}
			if v != 4 && v != 16 {
				w := c
				w.Wide = v
				all = append(all, w)
			}
			if v < 1 || v > 4 {
				w := c
				w.Tall = v
				all = append(all, w)
			}
			if v < 1 || v > 3 {
				w := c
				w.Layers = v
				all = append(all, w)
			}
		}
	}
	return all
}

// someText has n bytes that differ, among them zeros and ones, which padding is made of.
func someText(n int) string {
	b := make([]byte, n)
	for i := range b {
		b[i] = byte(i * i * 37 / 11)
	}
	return string(b)
}
