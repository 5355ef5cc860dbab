package signet_test

import (
	"fmt"
	"slices"
	"strings"
	"testing"

	"signet/api"
	"signet/signet"
)

// plainValue is H: its tag stands first in parts.
func plainValue(t *testing.T, c api.Set, parts ...string) string {
	t.Helper()
	d, e := signet.Digest(c.Kind, c.Bytes, strings.Join(parts, ""))
	if e != api.OK {
		t.Fatalf("P3: Digest of %d parts answers %d", len(parts), e)
	}
	return d
}

func in1(v int) string { return string([]byte{byte(v)}) }

func in4(v int) string { return string([]byte{byte(v >> 24), byte(v >> 16), byte(v >> 8), byte(v)}) }

func plainStart(t *testing.T, c api.Set, seeds api.Seeds, at api.Place) string {
	t.Helper()
	return plainValue(t, c, "\x01", seeds.Secret, in1(at.Layer), in4(at.Tree), in1(at.Leaf), in1(at.Chain))
}

func plainStep(t *testing.T, c api.Set, public string, at api.Place, k int, x string) string {
	t.Helper()
	return plainValue(t, c, "\x02", public, in1(at.Layer), in4(at.Tree), in1(at.Leaf), in1(at.Chain), in1(k), x)
}

func plainFold(t *testing.T, c api.Set, public string, at api.Place, ends []string) string {
	t.Helper()
	row := slices.Clone(ends)
	for round := 0; len(row) > 1; round++ {
		var next []string
		for i := 0; i+1 < len(row); i += 2 {
			next = append(next, plainValue(t, c, "\x03", public, in1(at.Layer), in4(at.Tree), in1(at.Leaf), in1(round), in1(i/2), row[i], row[i+1]))
		}
		if len(row)%2 == 1 {
			next = append(next, row[len(row)-1])
		}
		row = next
	}
	return row[0]
}

func meetText(t *testing.T, what string, s string, e api.Errno, want string, f api.Errno) {
	t.Helper()
	if s != want || e != f {
		t.Fatalf("%s: %x, %d, want %x, %d", what, s, e, want, f)
	}
}

func TestStartExamples(t *testing.T) {
	x, e := signet.Start(setA, seedsA, api.Place{})
	meetText(t, "P7: Start at 0 0 0 0", x, e, unhex(t, "3c778057"), api.OK)
	x, e = signet.Start(setA, seedsA, api.Place{Leaf: 3, Chain: 9})
	meetText(t, "P7: Start at 0 0 3 9", x, e, unhex(t, "a8ca5363"), api.OK)
}

func TestChainExamples(t *testing.T) {
	at := api.Place{Leaf: 1, Chain: 2}
	x, e := signet.Chain(setA, "cccc", at, 3, 15, "wxyz")
	meetText(t, "P7: Chain from 3 to 15", x, e, unhex(t, "3ed40294"), api.OK)
	x, e = signet.Chain(setA, "cccc", at, 5, 5, "wxyz")
	meetText(t, "P7: Chain from 5 to 5", x, e, "wxyz", api.OK)
	x, e = signet.Chain(setA, "cccc", at, 5, 16, "wxyz")
	meetText(t, "P7: Chain from 5 to 16", x, e, "", api.ErrArg)
}

func TestStartAtEveryKindOfPlace(t *testing.T) {
	for _, c := range rightSets() {
		seeds := seedsOf(c)
		for _, at := range chainPlaces(c) {
			x, e := signet.Start(c, seeds, at)
			meetText(t, fmt.Sprint("P7: Start of ", c, " at ", at), x, e, plainStart(t, c, seeds, at), api.OK)
		}
	}
}

func TestChainBetweenAllItsPlaces(t *testing.T) {
	for _, c := range rightSets() {
		public := seedsOf(c).Public
		for _, at := range chainPlaces(c) {
			first := someText(c.Bytes)
			for from := range c.Wide {
				want := first
				for to := from; to < c.Wide; to++ {
					x, e := signet.Chain(c, public, at, from, to, first)
					meetText(t, fmt.Sprint("P7: Chain of ", c, " at ", at, " from ", from, " to ", to), x, e, want, api.OK)
					want = plainStep(t, c, public, at, to, want)
				}
				if from == 2 && at != (api.Place{}) {
					break // beginnings further on at the first place alone, for the time it takes
				}
			}
		}
	}
}

func TestChainRefusesWrongPlacesOnIt(t *testing.T) {
	for _, c := range rightSets() {
		public, x := seedsOf(c).Public, someText(c.Bytes)
		for _, from := range edges {
			for _, to := range edges {
				if 0 <= from && from <= to && to < c.Wide {
					continue
				}
				y, e := signet.Chain(c, public, api.Place{}, from, to, x)
				meetText(t, fmt.Sprint("P7: Chain of ", c, " from ", from, " to ", to), y, e, "", api.ErrArg)
			}
		}
	}
}

func TestStartAndChainRefuseWrongPlaces(t *testing.T) {
	for _, c := range rightSets() {
		seeds := seedsOf(c)
		for _, at := range wrongPlaces(c) {
			x, e := signet.Start(c, seeds, at)
			meetText(t, fmt.Sprint("P7: Start of ", c, " at ", at), x, e, "", api.ErrArg)
			x, e = signet.Chain(c, seeds.Public, at, 0, 1, someText(c.Bytes))
			meetText(t, fmt.Sprint("P7: Chain of ", c, " at ", at), x, e, "", api.ErrArg)
		}
	}
}

func TestStartRefusesWrongSeeds(t *testing.T) {
	for _, c := range rightSets() {
		for _, seeds := range wrongSeeds(c) {
			x, e := signet.Start(c, seeds, api.Place{})
			meetText(t, fmt.Sprint("P7: Start of ", c), x, e, "", api.ErrArg)
		}
	}
}

func TestChainRefusesWrongLengths(t *testing.T) {
	for _, c := range rightSets() {
		right := someText(c.Bytes)
		for _, wrong := range wrongValues(c) {
			for _, to := range []int{0, 1, c.Wide - 1} {
				x, e := signet.Chain(c, wrong, api.Place{}, 0, to, right)
				meetText(t, fmt.Sprint("P7: Chain of ", c, ", Public of ", len(wrong)), x, e, "", api.ErrArg)
				x, e = signet.Chain(c, right, api.Place{}, 0, to, wrong)
				meetText(t, fmt.Sprint("P7: Chain of ", c, ", a value of ", len(wrong)), x, e, "", api.ErrArg)
			}
		}
	}
}

func TestFoldExample(t *testing.T) {
	var ends []string
	for i := range 10 {
		ends = append(ends, in1('a'+i)+"123")
	}
	x, e := signet.Fold(setA, "cccc", api.Place{Leaf: 2}, ends)
	meetText(t, "P8: Fold", x, e, unhex(t, "6d7ea0f3"), api.OK)
}

func TestFoldAtEveryKindOfPlace(t *testing.T) {
	for _, c := range rightSets() {
		public, ends := seedsOf(c).Public, someEnds(c)
		for _, at := range leafPlaces(c) {
			x, e := signet.Fold(c, public, at, ends)
			meetText(t, fmt.Sprint("P8: Fold of ", c, " at ", at), x, e, plainFold(t, c, public, at, ends), api.OK)
		}
	}
}

func TestFoldRefusesWrongPlaces(t *testing.T) {
	for _, c := range rightSets() {
		public, ends := seedsOf(c).Public, someEnds(c)
		for _, at := range notLeaves(c) {
			x, e := signet.Fold(c, public, at, ends)
			meetText(t, fmt.Sprint("P8: Fold of ", c, " at ", at), x, e, "", api.ErrArg)
		}
	}
}

func TestFoldRefusesWrongTexts(t *testing.T) {
	for _, c := range rightSets() {
		public, ends := seedsOf(c).Public, someEnds(c)
		lists := [][]string{nil, {}, ends[:1], ends[1:], append(slices.Clone(ends), someText(c.Bytes)), slices.Repeat(ends, 40)}
		for _, wrong := range wrongValues(c) {
			x, e := signet.Fold(c, wrong, api.Place{}, ends)
			meetText(t, fmt.Sprint("P8: Fold of ", c, ", Public of ", len(wrong)), x, e, "", api.ErrArg)
			for _, i := range []int{0, 1, len(ends) - 1} {
				list := slices.Clone(ends)
				list[i] = wrong
				lists = append(lists, list)
			}
		}
		for _, list := range lists {
			x, e := signet.Fold(c, public, api.Place{}, list)
			meetText(t, fmt.Sprint("P8: Fold of ", c, ", ends ", len(list)), x, e, "", api.ErrArg)
		}
	}
}

func someEnds(c api.Set) []string {
	z, _ := signet.Measure(c)
	var ends []string
	for i := range z.Chains {
		ends = append(ends, someText(c.Bytes-1)+in1(i))
	}
	return ends
}
