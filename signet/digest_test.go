package signet_test

import (
	"hash/crc32"
	"math"
	"math/big"
	"strings"
	"testing"

	"signet/api"
	"signet/signet"
)

func TestDigestExamples(t *testing.T) {
	for _, c := range []struct {
		kind, n int
		s, want string
		e       api.Errno
	}{
		{1, 16, "", "e3429d0e8ee4df006e8b5b99251a2558", api.OK},
		{1, 4, "abc", "d75c7d4d", api.OK},
		{1, 16, "0123456789abcdef", "6b8dfac865a53e3b2182ce5f2789ddda", api.OK},
		{2, 16, "", "d802e99c177d442387c2e35d62d9bf3c", api.OK},
		{2, 8, "abc", "8c31070b91faab80", api.OK},
		{3, 4, "", "", api.ErrArg},
		{1, 17, "", "", api.ErrArg},
	} {
		d, e := signet.Digest(c.kind, c.n, c.s)
		if d != unhex(t, c.want) || e != c.e {
			t.Errorf("P3: Digest(%d, %d, %q) = %x, %d, want %s, %d", c.kind, c.n, c.s, d, e, c.want, c.e)
		}
	}
}

// plainDigest does what the document says with whole numbers of any size, cut to the word's bytes by hand.
func plainDigest(kind int, s string) string {
	size := 4 * kind
	bits := uint(8 * size)
	top := new(big.Int).Lsh(big.NewInt(1), bits)
	var a [8]*big.Int
	for i := range a {
		a[i] = big.NewInt(int64(i + 1))
	}
	text := s + "\x01"
	for len(text)%(4*size) != 0 {
		text += "\x00"
	}
	for at := 0; at < len(text); at += 4 * size {
		for i := range 4 {
			word := new(big.Int).SetBytes([]byte(text[at+i*size : at+(i+1)*size]))
			a[i] = new(big.Int).Xor(a[i], word)
		}
		for round := int64(1); round <= 8; round++ {
			for i, k := range []uint{5, 11, 19, 26} {
				sum := new(big.Int).Add(a[i], a[i+4])
				a[i] = sum.Mod(sum, top)
				high := new(big.Int).Rsh(a[i+4], bits-k)
				low := new(big.Int).Lsh(a[i+4], k)
				turned := new(big.Int).Add(low.Mod(low, top), high)
				a[i+4] = turned.Xor(turned, a[i])
			}
			old := a[4]
			a[4], a[5], a[6] = a[5], a[6], a[7]
			a[7] = old
			a[0] = new(big.Int).Xor(a[0], big.NewInt(round))
		}
	}
	out := make([]byte, 0, 4*size)
	for i := range 4 {
		out = append(out, a[i].FillBytes(make([]byte, size))...)
	}
	return string(out)
}

func TestDigestOfEveryLengthOfText(t *testing.T) {
	for _, kind := range []int{1, 2} {
		for length := range 401 {
			s := someText(length)
			want := plainDigest(kind, s)
			for n := 1; n <= 16; n++ {
				if d, e := signet.Digest(kind, n, s); d != want[:n] || e != api.OK {
					t.Fatalf("P3: Digest(%d, %d, %d bytes) = %x, %d, want %x", kind, n, length, d, e, want[:n])
				}
			}
		}
	}
}

func TestDigestOfTextsThatLookPadded(t *testing.T) {
	for _, kind := range []int{1, 2} {
		block := 16 * kind
		for _, length := range []int{0, 1, block - 2, block - 1, block, block + 1, 2*block - 1, 2 * block, 2*block + 1} {
			for _, s := range []string{strings.Repeat("\x00", length), strings.Repeat("\xff", length), strings.Repeat("\x00", length) + "\x01"} {
				d, e := signet.Digest(kind, 16, s)
				if want := plainDigest(kind, s)[:16]; d != want || e != api.OK {
					t.Errorf("P3: Digest(%d, 16, %x) = %x, %d, want %x", kind, s, d, e, want)
				}
			}
		}
	}
}

func TestDigestOfTheLongestTexts(t *testing.T) {
	for _, kind := range []int{1, 2} {
		s := strings.Repeat("x", 400)
		if d, e := signet.Digest(kind, 16, s); d != plainDigest(kind, s)[:16] || e != api.OK {
			t.Errorf("P3: Digest(%d) of 400 bytes: %x, %d", kind, d, e)
		}
		for _, more := range []int{1, 2, 16, 1 << 20} {
			if d, e := signet.Digest(kind, 16, s+strings.Repeat("x", more)); d != "" || e != api.ErrLong {
				t.Errorf("P3: Digest(%d) of %d bytes: %x, %d", kind, 400+more, d, e)
			}
		}
	}
}

func TestDigestRefusesWrongNumbers(t *testing.T) {
	for _, c := range []struct{ kind, n int }{
		{0, 4}, {3, 4}, {-1, 4}, {4, 4}, {8, 4}, {math.MinInt, 4}, {math.MaxInt, 4},
		{1, 0}, {1, -1}, {1, 17}, {2, 0}, {2, 17}, {2, 32}, {2, math.MinInt}, {2, math.MaxInt},
	} {
		if d, e := signet.Digest(c.kind, c.n, "abc"); d != "" || e != api.ErrArg {
			t.Errorf("P3: Digest(%d, %d, abc) = %x, %d", c.kind, c.n, d, e)
		}
	}
}

func TestSum(t *testing.T) {
	if v := signet.Sum(""); v != 0 {
		t.Errorf("P4: Sum of nothing is %d", v)
	}
	if v := signet.Sum("123456789"); v != 3421780262 {
		t.Errorf("P4: Sum(123456789) is %d", v)
	}
	for c := range 256 {
		s := string([]byte{byte(c)})
		if v := signet.Sum(s); v != int(crc32.ChecksumIEEE([]byte(s))) {
			t.Errorf("P4: Sum(%x) is %d", s, v)
		}
	}
	for _, length := range []int{2, 3, 27, 28, 29, 32, 400, 401, 100000} {
		for _, s := range []string{someText(length), strings.Repeat("\x00", length), strings.Repeat("\xff", length)} {
			if v := signet.Sum(s); v != int(crc32.ChecksumIEEE([]byte(s))) {
				t.Errorf("P4: Sum of %d bytes, first %x, is %d", length, s[0], v)
			}
		}
	}
}
