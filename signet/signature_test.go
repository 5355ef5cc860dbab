package signet_test

import (
	"fmt"
	"math"
	"slices"
	"strings"
	"testing"

	"signet/api"
	"signet/signet"
)

func helloA(t *testing.T) string {
	t.Helper()
	return unhex(t, "000000001ea3f0a5d76762d084604aae61c60a6af5289b1b7c449a515c7c997e3ee8eb6a2119cac69c3004cbbc88d1b696fb9c7c2e3b3fb0")
}

// plainSign makes a signature out of whole trees.
func plainSign(t *testing.T, c api.Set, seeds api.Seeds, key string, index int, msg string) string {
	t.Helper()
	r := plainValue(t, c, "\x05", seeds.Random, in4(index))
	m := plainValue(t, c, "\x06", r, key[5:5+c.Bytes], seeds.Public, in4(index), msg)
	sig := in4(index) + r
	number := index
	for layer := range c.Layers {
		at := api.Place{Layer: layer, Tree: number / leavesOf(c)}
		rows := plainTree(t, c, seeds, at)
		at.Leaf = number % leavesOf(c)
		digits, _ := signet.Digits(c, m)
		for i, digit := range digits {
			at.Chain = i
			x := plainStart(t, c, seeds, at)
			for k := range digit {
				x = plainStep(t, c, seeds.Public, at, k, x)
			}
			sig += x
		}
		sig += strings.Join(besides(rows, at.Leaf), "")
		m = rows[c.Tall][0]
		number /= leavesOf(c)
	}
	return sig
}

func TestSignaturesOfEverySet(t *testing.T) {
	for _, c := range rightSets() {
		seeds := seedsOf(c)
		key := plainKey(t, c, seeds)
		z, _ := signet.Measure(c)
		for _, index := range some(z.Total) {
			d := newDisk(t, 2)
			writeAll(t, d, 0, plainSeal(api.Record{Seq: 2, Bound: index, Id: plainId(c, key)}))
			s, e := signet.Open(d, c, seeds, 1)
			meetBegin(t, fmt.Sprint("P19: Open of ", c), s, e, api.OK)
			msg := someText(index % 201)
			sig := meetSign(t, s, msg, index)
			what := fmt.Sprint("P22: ", c, ", the signature ", index)
			meetText(t, what, sig, api.OK, plainSign(t, c, seeds, key, index, msg), api.OK)
			meetErrno(t, "P24: Verify of another message", signet.Verify(key, msg+"x", sig), verdict(msg+"x"))
		}
	}
}

// verdict is the answer to a message that was not signed.
func verdict(msg string) api.Errno {
	if len(msg) > 200 {
		return api.ErrLong
	}
	return api.ErrWrong
}

// signed has a key and, by their indices, signatures of the messages 0, 1 and so on.
func signed(t *testing.T, c api.Set, seeds api.Seeds) (string, []string) {
	t.Helper()
	s, e := signet.Make(newDisk(t, 2), c, seeds, 3)
	meetBegin(t, "P18: Make", s, e, api.OK)
	z, _ := signet.Measure(c)
	var sigs []string
	for i := range z.Total {
		sigs = append(sigs, meetSign(t, s, fmt.Sprint(i), i))
	}
	return s.Key(), sigs
}

// deepSet has three layers, so that there is one between the first and the last.
var deepSet = api.Set{Kind: 2, Bytes: 4, Wide: 16, Tall: 1, Layers: 3}

func TestVerifyOfEachSignatureWithEachMessage(t *testing.T) {
	for _, c := range []api.Set{setA, setB, setC, deepSet} {
		key, sigs := signed(t, c, seedsOf(c))
		for i, sig := range sigs {
			for j := range sigs {
				want := api.ErrWrong
				if i == j {
					want = api.OK
				}
				meetErrno(t, fmt.Sprint("P24: ", c, ": Verify of ", i, " with ", j), signet.Verify(key, fmt.Sprint(j), sig), want)
			}
		}
	}
}

func TestVerifyRefusesEachSpoiledByte(t *testing.T) {
	for _, c := range []api.Set{setA, setB, setC, deepSet} {
		key, sigs := signed(t, c, seedsOf(c))
		sig := sigs[2]
		for i := range sig {
			for _, bit := range []byte{1, 128} {
				want := api.ErrWrong
				spoiled := sig[:i] + string([]byte{sig[i] ^ bit}) + sig[i+1:]
				if i < 4 && (i < 3 || bit == 128) {
					want = api.ErrForm
				}
				meetErrno(t, fmt.Sprint("P24: ", c, ": Verify, spoiled at ", i), signet.Verify(key, "2", spoiled), want)
			}
		}
		for i := 5; i < len(key); i++ {
			spoiled := key[:i] + string([]byte{key[i] ^ 1}) + key[i+1:]
			meetErrno(t, fmt.Sprint("P24: ", c, ": Verify by a key spoiled at ", i), signet.Verify(spoiled, "2", sig), api.ErrWrong)
		}
	}
}

// TestVerifyByOtherSets: the first bytes of a key may tell another set that is right.
func TestVerifyByOtherSets(t *testing.T) {
	for _, c := range []api.Set{setA, setB, setC, deepSet} {
		key, sigs := signed(t, c, seedsOf(c))
		for i := range 5 {
			for v := range 256 {
				spoiled := key[:i] + in1(v) + key[i+1:]
				n := [5]int{c.Kind, c.Bytes, c.Wide, c.Tall, c.Layers}
				n[i] = v
				other := api.Set{Kind: n[0], Bytes: n[1], Wide: n[2], Tall: n[3], Layers: n[4]}
				want := api.ErrWrong
				z, e := signet.Measure(other)
				if e != api.OK || z.Key != len(key) {
					want = api.ErrKey
				} else if z.Sig != len(sigs[1]) {
					want = api.ErrForm
				} else if other == c {
					want = api.OK
				}
				meetErrno(t, fmt.Sprint("P24: ", c, ": Verify by a key of ", other), signet.Verify(spoiled, "1", sigs[1]), want)
			}
		}
	}
}

func TestVerifyAnswersTheFirstError(t *testing.T) {
	key, sig := unhex(t, "01041002012841c69863636363"), helloA(t)
	meetErrno(t, "P24: Verify", signet.Verify(key, "hello", sig), api.OK)
	for n := range 40 {
		wrong := (key + key + key + key)[:n]
		if n != len(key) {
			meetErrno(t, fmt.Sprint("P24: Verify by a key of ", n, " bytes"), signet.Verify(wrong, longMessage, ""), api.ErrKey)
		}
	}
	for _, n := range []int{0, 1, 3, 4, 7, 8, 55, 57, 112, 604, 1 << 20} {
		wrong := strings.Repeat("\x00", n)
		meetErrno(t, fmt.Sprint("P24: Verify of ", n, " bytes"), signet.Verify(key, "hello", wrong), api.ErrForm)
		meetErrno(t, fmt.Sprint("P24: Verify of a long message and ", n, " bytes"), signet.Verify(key, longMessage, wrong), api.ErrLong)
	}
	meetErrno(t, "P24: Verify of a long message", signet.Verify(key, longMessage, sig), api.ErrLong)
	meetErrno(t, "P24: Verify of a message that is not too long", signet.Verify(key, longMessage[1:], sig), api.ErrWrong)
	meetErrno(t, "P24: Verify of nothing", signet.Verify("", "", ""), api.ErrKey)
	meetErrno(t, "P24: Verify of very long texts", signet.Verify(someText(1<<20), someText(1<<20), someText(1<<20)), api.ErrKey)
}

// someSig is of a signature's length and has an index, but nothing else in it was signed.
func someSig(c api.Set, index int) string {
	z, _ := signet.Measure(c)
	return in4(index) + someText(z.Sig)[4:]
}

func meetParsed(t *testing.T, c api.Set, sig string, want api.Parsed, wantErr api.Errno) {
	t.Helper()
	p, e := signet.Split(c, sig)
	if p.Index != want.Index || p.Random != want.Random || !slices.Equal(p.Parts, want.Parts) || e != wantErr {
		t.Fatalf("P23: Split of %v and %d bytes: %x, %d, want %x, %d", c, len(sig), p, e, want, wantErr)
	}
}

func plainSplit(c api.Set, index int, sig string) api.Parsed {
	p := api.Parsed{Index: index, Random: sig[4 : 4+c.Bytes]}
	for rest := sig[4+c.Bytes:]; rest != ""; rest = rest[c.Bytes:] {
		p.Parts = append(p.Parts, rest[:c.Bytes])
	}
	return p
}

func TestSplitAndJoinOfEverySet(t *testing.T) {
	for _, c := range rightSets() {
		z, _ := signet.Measure(c)
		for _, index := range some(z.Total) {
			sig := someSig(c, index)
			want := plainSplit(c, index, sig)
			if len(want.Parts) != c.Layers*(z.Chains+c.Tall) {
				t.Fatalf("P5: %v: Sig is %d, which has %d parts", c, z.Sig, len(want.Parts))
			}
			meetParsed(t, c, sig, want, api.OK)
			again, e := signet.Join(c, want)
			meetText(t, fmt.Sprint("P23: Join of ", c), again, e, sig, api.OK)
		}
		for _, index := range []int{z.Total, z.Total + 1, 1 << 16, 1 << 24, math.MaxInt32, 1 << 31, math.MaxUint32} {
			meetParsed(t, c, someSig(c, index), api.Parsed{}, api.ErrForm)
		}
		sig := someSig(c, 0)
		for _, wrong := range []string{"", sig[:3], sig[:4], sig[:len(sig)-1], sig + "x", sig[:len(sig)-c.Bytes], sig + sig} {
			meetParsed(t, c, wrong, api.Parsed{}, api.ErrForm)
		}
	}
	for _, c := range wrongSets() {
		meetParsed(t, c, helloA(t), api.Parsed{}, api.ErrSet)
		meetParsed(t, c, "", api.Parsed{}, api.ErrSet)
		sig, e := signet.Join(c, plainSplit(setA, 0, helloA(t)))
		meetText(t, fmt.Sprint("P23: Join of ", c), sig, e, "", api.ErrSet)
		sig, e = signet.Join(c, api.Parsed{Index: -1})
		meetText(t, fmt.Sprint("P23: Join of ", c), sig, e, "", api.ErrSet)
	}
}

// wrongParsed differ in one thing from what Split may answer; some are as long in all.
func wrongParsed(c api.Set) []api.Parsed {
	z, _ := signet.Measure(c)
	right := func() api.Parsed { return plainSplit(c, 1, someSig(c, 1)) }
	all := []api.Parsed{{}, {Random: right().Random}, {Parts: right().Parts}}
	for _, v := range outside(z.Total) {
		p := right()
		p.Index = v
		all = append(all, p)
	}
	for _, x := range wrongValues(c) {
		p, q, r := right(), right(), right()
		p.Random = x
		q.Parts[0] = x
		r.Parts[len(r.Parts)-1] = x
		all = append(all, p, q, r)
	}
	p, q := right(), right()
	p.Parts[0], p.Parts[1] = p.Parts[0]+p.Parts[1][:1], p.Parts[1][1:]
	q.Random, q.Parts[0] = q.Random+q.Parts[0][:1], q.Parts[0][1:]
	all = append(all, p, q)
	p, q = right(), right()
	p.Parts = p.Parts[:len(p.Parts)-1]
	q.Parts = append(q.Parts, q.Parts[0])
	return append(all, p, q, api.Parsed{Random: right().Random, Parts: make([]string, 1<<16)})
}

func TestJoinRefusesWrongParts(t *testing.T) {
	for _, c := range rightSets() {
		for i, p := range wrongParsed(c) {
			sig, e := signet.Join(c, p)
			meetText(t, fmt.Sprint("P23: Join of ", c, ", the wrong parts ", i), sig, e, "", api.ErrForm)
		}
	}
}

func TestPartsAreTheCallers(t *testing.T) {
	sig := helloA(t)
	want := plainSplit(setA, 0, sig)
	held, _ := signet.Split(setA, sig)
	first, _ := signet.Split(setA, sig)
	spoil(first.Parts, "spoiled")
	meetParsed(t, setA, sig, want, api.OK)
	if !slices.Equal(held.Parts, want.Parts) {
		t.Errorf("P2: the parts have changed: %x", held.Parts)
	}
	whole := append(slices.Clone(want.Parts), "more", "and more")
	was := slices.Clone(whole)
	again, e := signet.Join(setA, api.Parsed{Random: want.Random, Parts: whole[:12]})
	meetText(t, "P23: Join", again, e, sig, api.OK)
	if !slices.Equal(whole, was) {
		t.Errorf("P2: Join writes into a list: %x, was %x", whole, was)
	}
	spoil(whole, "spoiled")
	meetText(t, "P2: what Join gave", again, e, sig, api.OK)
}
