package signet_test

import (
	"math"
	"slices"
	"strings"
	"testing"

	"signet/api"
	"signet/signet"
)

func TestDigestAtAllNumbersAndTexts(t *testing.T) {
	texts := []string{"", "a", someText(400), someText(401), strings.Repeat("\xff", 1<<22)}
	for _, kind := range edges {
		for _, n := range edges {
			for _, s := range texts {
				want := api.OK
				if kind < 1 || kind > 2 || n < 1 || n > 16 {
					want = api.ErrArg
				} else if len(s) > 400 {
					want = api.ErrLong
				}
				d, e := signet.Digest(kind, n, s)
				if e != want {
					t.Fatalf("P1: Digest(%d, %d, %d bytes) answers %d, want %d", kind, n, len(s), e, want)
				}
				if e != api.OK && d != "" {
					t.Fatalf("P1: Digest(%d, %d, %d bytes) answers %x beside error %d", kind, n, len(s), d, e)
				}
			}
		}
	}
}

func TestSumAtVeryLongTexts(t *testing.T) {
	for _, s := range []string{"", strings.Repeat("\x00", 1<<22), strings.Repeat("\xff", 1<<22)} {
		if v := signet.Sum(s); v < 0 || v > math.MaxUint32 {
			t.Errorf("P1, P4: Sum of %d bytes is %d", len(s), v)
		}
	}
}

func TestSetCallsAtAllNumbers(t *testing.T) {
	for _, kind := range edges {
		for _, size := range edges {
			for _, wide := range edges {
				for _, high := range edges {
					meetSet(t, api.Set{Kind: kind, Bytes: size, Wide: wide, Tall: high, Layers: 1})
					meetSet(t, api.Set{Kind: kind, Bytes: size, Wide: wide, Tall: 4, Layers: high})
				}
			}
		}
	}
	for _, v := range edges {
		meetSet(t, api.Set{Kind: v, Bytes: v, Wide: v, Tall: v, Layers: v})
	}
}

func meetSet(t *testing.T, c api.Set) {
	t.Helper()
	e := signet.Check(c)
	z, e1 := signet.Measure(c)
	l, e2 := signet.Digits(c, "abcd")
	if e == api.OK {
		if e1 != api.OK || (e2 == api.OK) != (c.Bytes == 4) {
			t.Fatalf("P1: the set %v: Check, Measure and Digits answer %d, %d, %d", c, e, e1, e2)
		}
		return
	}
	if e != api.ErrSet || e1 != api.ErrSet || e2 != api.ErrSet {
		t.Fatalf("P1: the set %v: Check, Measure and Digits answer %d, %d, %d", c, e, e1, e2)
	}
	if z != (api.Sizes{}) || l != nil {
		t.Fatalf("P1: the set %v: %v and %v beside an error", c, z, l)
	}
}

func TestOrderOfErrors(t *testing.T) {
	if d, e := signet.Digest(3, 4, someText(401)); d != "" || e != api.ErrArg {
		t.Errorf("P1: Digest of a wrong kind and a long text: %x, %d", d, e)
	}
	if d, e := signet.Digest(2, 17, someText(401)); d != "" || e != api.ErrArg {
		t.Errorf("P1: Digest of a wrong length and a long text: %x, %d", d, e)
	}
	for _, c := range wrongSets() {
		for _, m := range []string{"", "abc", "abcdefghi", someText(1 << 20)} {
			if l, e := signet.Digits(c, m); l != nil || e != api.ErrSet {
				t.Fatalf("P1: Digits(%v, %d bytes): %v, %d", c, len(m), l, e)
			}
		}
	}
}

func TestDigitsAreTheCallers(t *testing.T) {
	for _, c := range rightSets() {
		m := someText(c.Bytes)
		first, _ := signet.Digits(c, m)
		want := slices.Clone(first)
		held, _ := signet.Digits(c, m)
		spoil(first, -7)
		again, e := signet.Digits(c, m)
		if e != api.OK || !slices.Equal(again, want) || !slices.Equal(held, want) {
			t.Fatalf("P2: Digits(%v, %x): %v, then %v, where %v was spoiled", c, m, held, again, want)
		}
		spoil(held, -7)
		if !slices.Equal(again, want) {
			t.Fatalf("P2: Digits(%v, %x): a list changed by another: %v, want %v", c, m, again, want)
		}
	}
}

// spoil writes into a list, into its spare room and behind its end.
func spoil[T any](list []T, x T) {
	whole := list[:cap(list)]
	for i := range whole {
		whole[i] = x
	}
	_ = append(list, x, x)
	_ = append(list[:0], x)
}

func TestAnswersHangOnWhatIsGiven(t *testing.T) {
	s := someText(50)
	d, _ := signet.Digest(1, 16, s)
	v := signet.Sum(s)
	z, _ := signet.Measure(setA)
	l, _ := signet.Digits(setA, "wxyz")
	for _, c := range append(rightSets(), wrongSets()...) {
		signet.Digest(c.Kind, c.Bytes, someText(33))
		signet.Sum(someText(33))
		signet.Measure(c)
		signet.Digits(c, "12345678")
	}
	if again, _ := signet.Digest(1, 16, s); again != d {
		t.Errorf("P2: Digest: %x, then %x", d, again)
	}
	if again := signet.Sum(s); again != v {
		t.Errorf("P2: Sum: %d, then %d", v, again)
	}
	if again, _ := signet.Measure(setA); again != z {
		t.Errorf("P2: Measure: %v, then %v", z, again)
	}
	if again, _ := signet.Digits(setA, "wxyz"); !slices.Equal(again, l) {
		t.Errorf("P2: Digits: %v, then %v", l, again)
	}
}

func TestTreeCallsOfWrongSets(t *testing.T) {
	for _, c := range append(wrongSets(), api.Set{}) {
		for _, right := range []bool{true, false} {
			seeds, at, x, list := api.Seeds{}, api.Place{Layer: -1, Tree: math.MaxInt}, "", []string(nil)
			if right {
				seeds, at, x, list = seedsA, api.Place{}, "wxyz", someEnds(setA)
			}
			y, e := signet.Start(c, seeds, at)
			meetText(t, "P1, P7: Start of a wrong set", y, e, "", api.ErrSet)
			y, e = signet.Chain(c, x, at, 0, 1, x)
			meetText(t, "P1, P7: Chain of a wrong set", y, e, "", api.ErrSet)
			y, e = signet.Fold(c, x, at, list)
			meetText(t, "P1, P8: Fold of a wrong set", y, e, "", api.ErrSet)
			y, e = signet.NodeOf(c, seeds, at, 0, 0)
			meetText(t, "P1, P9: NodeOf of a wrong set", y, e, "", api.ErrSet)
			y, e = signet.Climb(c, x, at, x, list)
			meetText(t, "P1, P10: Climb of a wrong set", y, e, "", api.ErrSet)
			if w, e := signet.NewWalk(c, seeds, at); w != nil || e != api.ErrSet {
				t.Fatalf("P1, P11: NewWalk of a wrong set: %v, %d", w, e)
			}
		}
	}
}

func TestTreeCallsAtAllNumbers(t *testing.T) {
	for _, v := range edges {
		for _, u := range edges {
			c := api.Set{Kind: v, Bytes: u, Wide: v, Tall: u, Layers: v}
			for _, c := range []api.Set{c, setB} {
				at := api.Place{Layer: v, Tree: u, Leaf: v, Chain: u}
				signet.Start(c, seedsB, at)
				signet.Chain(c, seedsB.Public, at, u, v, "12345678")
				signet.Fold(c, seedsB.Public, at, someEnds(setB))
				signet.NodeOf(c, seedsB, at, u, v)
				signet.NodeOf(c, seedsB, api.Place{Layer: 1}, u, v)
				signet.Climb(c, seedsB.Public, at, "12345678", []string{"12345678"})
				signet.NewWalk(c, seedsB, at)
			}
		}
	}
}

// TestListsHandedInAreNotWrittenInto: neither in the list nor in its spare room.
func TestListsHandedInAreNotWrittenInto(t *testing.T) {
	for _, c := range rightSets() {
		ends := append(someEnds(c), someEnds(c)...)
		was := slices.Clone(ends)
		chains := len(ends) / 2
		x, _ := signet.Fold(c, seedsOf(c).Public, api.Place{}, ends[:chains])
		y, _ := signet.Climb(c, seedsOf(c).Public, api.Place{Leaf: 1}, someText(c.Bytes), ends[:c.Tall])
		if !slices.Equal(ends, was) {
			t.Fatalf("P2: %v: Fold or Climb writes into a list: %x, was %x", c, ends, was)
		}
		spoil(ends, "spoiled")
		if again, _ := signet.Fold(c, seedsOf(c).Public, api.Place{}, was[:chains]); again != x {
			t.Fatalf("P2: %v: Fold: %x, then %x", c, x, again)
		}
		if again, _ := signet.Climb(c, seedsOf(c).Public, api.Place{Leaf: 1}, someText(c.Bytes), was[:c.Tall]); again != y {
			t.Fatalf("P2: %v: Climb: %x, then %x", c, y, again)
		}
	}
}
