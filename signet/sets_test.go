package signet_test

import (
	"math/big"
	"slices"
	"strconv"
	"testing"

	"signet/api"
	"signet/signet"
)

func TestCheck(t *testing.T) {
	for _, c := range rightSets() {
		if e := signet.Check(c); e != api.OK {
			t.Errorf("P5: Check(%v) = %d", c, e)
		}
	}
	for _, c := range append(wrongSets(), api.Set{}) {
		if e := signet.Check(c); e != api.ErrSet {
			t.Errorf("P5: Check(%v) = %d", c, e)
		}
		if z, e := signet.Measure(c); z != (api.Sizes{}) || e != api.ErrSet {
			t.Errorf("P5: Measure(%v) = %v, %d", c, z, e)
		}
	}
}

func TestMeasureExamples(t *testing.T) {
	for c, want := range map[api.Set]api.Sizes{
		setA: {First: 8, Last: 2, Chains: 10, Total: 4, Sig: 56, Key: 13},
		setB: {First: 32, Last: 4, Chains: 36, Total: 4, Sig: 604, Key: 21},
		setC: {First: 16, Last: 3, Chains: 19, Total: 8, Sig: 96, Key: 13},
	} {
		if z, e := signet.Measure(c); z != want || e != api.OK {
			t.Errorf("P5: Measure(%v) = %v, %d, want %v", c, z, e, want)
		}
	}
}

func TestMeasureOfEverySet(t *testing.T) {
	for _, c := range rightSets() {
		z, e := signet.Measure(c)
		if e != api.OK {
			t.Fatalf("P5: Measure(%v) answers %d", c, e)
		}
		if want := len(strconv.FormatInt(255, c.Wide)) * c.Bytes; z.First != want {
			t.Errorf("P5: Measure(%v): First %d, want %d", c, z.First, want)
		}
		if want := len(strconv.FormatInt(int64(z.First*(c.Wide-1)), c.Wide)); z.Last != want {
			t.Errorf("P5: Measure(%v): Last %d, want %d", c, z.Last, want)
		}
		if z.Chains != z.First+z.Last {
			t.Errorf("P5: Measure(%v): Chains %d", c, z.Chains)
		}
		total := 1
		for range c.Layers {
			for range c.Tall {
				total *= 2
			}
		}
		if z.Total != total {
			t.Errorf("P5: Measure(%v): Total %d, want %d", c, z.Total, total)
		}
		if want := 4 + c.Bytes + c.Layers*(z.Chains+c.Tall)*c.Bytes; z.Sig != want {
			t.Errorf("P5: Measure(%v): Sig %d, want %d", c, z.Sig, want)
		}
		if want := 5 + 2*c.Bytes; z.Key != want {
			t.Errorf("P5: Measure(%v): Key %d, want %d", c, z.Key, want)
		}
	}
}

func TestDigitsExample(t *testing.T) {
	want := []int{0, 0, 1, 2, 15, 15, 10, 0, 4, 13}
	if l, e := signet.Digits(setA, unhex(t, "0012ffa0")); !slices.Equal(l, want) || e != api.OK {
		t.Errorf("P6: Digits(A, 0012ffa0) = %v, %d, want %v", l, e, want)
	}
}

// plainDigits writes the number v to the base with zeros ahead, by the library's means.
func plainDigits(v *big.Int, base, length int) []int {
	s := v.Text(base)
	list := make([]int, length-len(s))
	for _, c := range s {
		d, _ := strconv.ParseInt(string(c), base, 64)
		list = append(list, int(d))
	}
	return list
}

func meetDigits(t *testing.T, c api.Set, m string) {
	t.Helper()
	z, _ := signet.Measure(c)
	want := plainDigits(new(big.Int).SetBytes([]byte(m)), c.Wide, z.First)
	sum := int64(0)
	for _, d := range want {
		sum += int64(c.Wide - 1 - d)
	}
	want = append(want, plainDigits(big.NewInt(sum), c.Wide, z.Last)...)
	if l, e := signet.Digits(c, m); !slices.Equal(l, want) || e != api.OK {
		t.Fatalf("P6: Digits(%v, %x) = %v, %d, want %v", c, m, l, e, want)
	}
}

func TestDigitsOfEverySet(t *testing.T) {
	for _, c := range rightSets() {
		for at := range c.Bytes {
			for v := range 256 {
				for _, rest := range []byte{0x00, 0x1b, 0xff} {
					m := slices.Repeat([]byte{rest}, c.Bytes)
					m[at] = byte(v)
					meetDigits(t, c, string(m))
				}
			}
		}
		meetDigits(t, c, "abcdefgh"[:c.Bytes])
		meetDigits(t, c, "\x80\x00\x01\xfe\x7f\xe4\x00\xff"[:c.Bytes])
	}
}

func TestDigitsRefusesWrongLengths(t *testing.T) {
	for _, c := range rightSets() {
		for _, n := range []int{0, 1, 2, 3, 4, 5, 7, 8, 9, 16, 400, 1 << 20} {
			if n == c.Bytes {
				continue
			}
			if l, e := signet.Digits(c, someText(n)); l != nil || e != api.ErrArg {
				t.Errorf("P6: Digits(%v, %d bytes) = %v, %d", c, n, l, e)
			}
		}
	}
	for _, c := range wrongSets() {
		if l, e := signet.Digits(c, someText(4)); l != nil || e != api.ErrSet {
			t.Errorf("P6: Digits(%v, 4 bytes) = %v, %d", c, l, e)
		}
	}
}
