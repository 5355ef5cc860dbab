package signet_test

import (
	"fmt"
	"math/rand"
	"strings"
	"testing"

	"signet/api"
	"signet/signet"
)

// owner is a key with all by which its signers are made.
type owner struct {
	set   api.Set
	seeds api.Seeds
	key   string
	id    string
	total int
}

func newOwner(t *testing.T, c api.Set, seeds api.Seeds) *owner {
	t.Helper()
	key := plainKey(t, c, seeds)
	z, _ := signet.Measure(c)
	return &owner{set: c, seeds: seeds, key: key, id: plainId(c, key), total: z.Total}
}

// plainSigner goes by the document's words, over a plain disk.
type plainSigner struct {
	disk  *plainDisk
	owner *owner
	batch int
	state api.State
}

// plainBegin does the turns of Make or Open.
func plainBegin(p *plainDisk, o *owner, batch int, fresh bool) (*plainSigner, api.Errno) {
	if e := p.sync(); e != api.OK {
		return nil, e
	}
	s := &plainSigner{disk: p, owner: o, batch: batch}
	held := false
	for i := range 2 {
		text, e := p.read(i)
		if e != api.OK {
			return nil, e
		}
		r, e := signet.Unseal(text)
		held = held || e == api.OK
		if e == api.OK && r.Id == o.id && r.Bound <= o.total && r.Seq > s.state.Seq {
			s.state = api.State{Next: r.Bound, Bound: r.Bound, Seq: r.Seq}
		}
	}
	if !fresh && s.state.Seq == 0 {
		return nil, api.ErrNone
	}
	if !fresh {
		return s, api.OK
	}
	if held {
		return nil, api.ErrMade
	}
	e := s.record(1, 0)
	s.state = api.State{Seq: 1}
	if e != api.OK {
		return nil, e
	}
	return s, api.OK
}

func (s *plainSigner) record(seq int, bound int) api.Errno {
	if e := s.disk.write(seq%2, plainSeal(api.Record{Seq: seq, Bound: bound, Id: s.owner.id})); e != api.OK {
		return e
	}
	return s.disk.sync()
}

func (s *plainSigner) more(m int) api.Errno {
	bound := min(s.state.Bound+m, s.owner.total)
	if e := s.record(s.state.Seq+1, bound); e != api.OK {
		s.state.Over = true
		return e
	}
	s.state.Seq++
	s.state.Bound = bound
	return api.OK
}

func (s *plainSigner) reserve(m int) (int, api.Errno) {
	switch {
	case s.state.Over:
		return 0, api.ErrOver
	case m < 1 || m > 64:
		return 0, api.ErrArg
	case s.state.Bound == s.owner.total:
		return 0, api.ErrSpent
	}
	if e := s.more(m); e != api.OK {
		return 0, e
	}
	return s.state.Bound, api.OK
}

// sign tells the index alone.
func (s *plainSigner) sign(msg string) (int, api.Errno) {
	switch {
	case s.state.Over:
		return 0, api.ErrOver
	case len(msg) > 200:
		return 0, api.ErrLong
	case s.state.Next == s.owner.total:
		return 0, api.ErrSpent
	}
	if s.state.Next == s.state.Bound {
		if e := s.more(s.batch); e != api.OK {
			return 0, e
		}
	}
	s.state.Next++
	return s.state.Next - 1, api.OK
}

// both is a signer and what it is to be.
type both struct {
	real  *signet.Signer
	plain *plainSigner
}

// past is what was ever done by one key over a disk.
type past struct {
	given    map[int]string // signatures by their indices
	writing  map[int]bool   // bounds of records, whether or not they were lost
	reserved int            // the greatest bound that was reserved
	made     bool
}

// world is one disk, all signers that were ever over it, and what they did.
type world struct {
	t       *testing.T
	chance  *rand.Rand
	real    *signet.Disk
	plain   *plainDisk
	owners  []*owner
	pasts   map[*owner]*past
	signers []both
	said    []string
}

func newWorld(t *testing.T, chance *rand.Rand, owners []*owner) *world {
	t.Helper()
	n := 2 + chance.Intn(3)
	w := &world{t: t, chance: chance, real: newDisk(t, n), plain: &plainDisk{n: n}, owners: owners, pasts: map[*owner]*past{}}
	for _, o := range owners {
		w.pasts[o] = &past{given: map[int]string{}, writing: map[int]bool{0: true}}
	}
	return w
}

func (w *world) says(format string, parts ...any) {
	w.said = append(w.said, fmt.Sprintf(format, parts...))
}

func (w *world) meets(what string, e api.Errno, want api.Errno) {
	w.t.Helper()
	if e != want {
		w.t.Fatalf("%s answers %d, want %d, behind %v", what, e, want, w.said)
	}
}

func (w *world) allOver() {
	for _, s := range w.signers {
		s.plain.state.Over = true
	}
}

func (w *world) begins(o *owner, fresh bool) {
	w.t.Helper()
	batch := 1 + w.chance.Intn(3)
	what, call := "Open", begin(signet.Open)
	if fresh {
		what, call = "Make", signet.Make
	}
	w.says("%s(%v, %d)", what, o.set, batch)
	w.allOver()
	real, e := call(w.real, o.set, o.seeds, batch)
	plain, want := plainBegin(w.plain, o, batch, fresh)
	w.meets("P18, P19: "+what, e, want)
	if e != api.OK {
		return
	}
	w.signers = append(w.signers, both{real, plain})
	w.pasts[o].made = true
	w.opensBehindAll(o, real.State())
}

// opensBehindAll: P26, told without the plain signer.
func (w *world) opensBehindAll(o *owner, x api.State) {
	w.t.Helper()
	p := w.pasts[o]
	if x.Next != x.Bound || !p.writing[x.Next] || x.Next < p.reserved {
		w.t.Fatalf("P26: a signer begins with %v, where %d were reserved, behind %v", x, p.reserved, w.said)
	}
	for index := range p.given {
		if index >= x.Next {
			w.t.Fatalf("P26: a signer begins with %v, where %d was given out, behind %v", x, index, w.said)
		}
	}
}

func (w *world) signs(s both) {
	w.t.Helper()
	msg := strings.Repeat("m", w.chance.Intn(4)*67)
	w.says("Sign(%d bytes)", len(msg))
	o, p := s.plain.owner, w.pasts[s.plain.owner]
	if s.plain.state.Next == s.plain.state.Bound {
		p.writing[min(s.plain.state.Bound+s.plain.batch, o.total)] = true
	}
	sig, e := s.real.Sign(msg)
	index, want := s.plain.sign(msg)
	w.meets("P22: Sign", e, want)
	p.reserved = max(p.reserved, s.real.State().Bound)
	if e != api.OK {
		if sig != "" {
			w.t.Fatalf("P1: Sign gives a signature with an error, behind %v", w.said)
		}
		return
	}
	q, e := signet.Split(o.set, sig)
	if e != api.OK || q.Index != index || q.Index >= o.total || p.given[q.Index] != "" {
		w.t.Fatalf("P25: Sign gives the index %d (%d), want %d, behind %v", q.Index, e, index, w.said)
	}
	p.given[q.Index] = sig
	w.meets("P25: Verify", signet.Verify(o.key, msg, sig), api.OK)
}

func (w *world) reserves(s both) {
	w.t.Helper()
	m := w.chance.Intn(5)
	w.says("Reserve(%d)", m)
	p := w.pasts[s.plain.owner]
	p.writing[min(s.plain.state.Bound+m, s.plain.owner.total)] = true
	n, e := s.real.Reserve(m)
	bound, want := s.plain.reserve(m)
	w.meets("P21: Reserve", e, want)
	if n != bound {
		w.t.Fatalf("P21: Reserve(%d) = %d, want %d, behind %v", m, n, bound, w.said)
	}
	p.reserved = max(p.reserved, n)
}

func (w *world) crashes() {
	keep := make([]bool, w.chance.Intn(4))
	for i := range keep {
		keep[i] = w.chance.Intn(2) == 1
	}
	w.says("Crash(%v)", keep)
	w.real.Crash(keep)
	w.plain.crash(keep)
	w.allOver()
}

func (w *world) troubles() {
	k := w.chance.Intn(8)
	w.says("Trouble(%d)", k)
	w.real.Trouble(k)
	w.plain.trouble(k)
}

// writes does not touch the journal, but leaves something pending.
func (w *world) writes() {
	w.t.Helper()
	i := 2 + w.chance.Intn(3)
	w.says("Write(%d)", i)
	text := filled(len(w.plain.written))
	w.meets("P14: Write", w.real.Write(i, text), w.plain.write(i, text))
}

func (w *world) step() {
	w.t.Helper()
	o := w.owners[0]
	if w.chance.Intn(4) == 0 {
		o = w.owners[w.chance.Intn(len(w.owners))]
	}
	what := w.chance.Intn(20)
	switch {
	case what < 2:
		w.begins(o, true)
	case what < 4:
		w.begins(o, false)
	case what < 6:
		w.crashes()
	case what < 8:
		w.troubles()
	case what < 9:
		w.writes()
	case len(w.signers) == 0:
		w.begins(o, true)
	default:
		s := w.signers[len(w.signers)-1]
		if w.chance.Intn(6) == 0 {
			s = w.signers[w.chance.Intn(len(w.signers))]
		}
		if what < 12 {
			w.reserves(s)
		} else {
			w.signs(s)
		}
	}
	w.standsAsTold()
}

func (w *world) standsAsTold() {
	w.t.Helper()
	for i, s := range w.signers {
		if got := s.real.State(); got != s.plain.state {
			w.t.Fatalf("P20: State() of the signer %d = %v, want %v, behind %v", i, got, s.plain.state, w.said)
		}
	}
	if got := w.real.Count(); got != w.plain.count() {
		w.t.Fatalf("P14: Count() = %v, want %v, behind %v", got, w.plain.count(), w.said)
	}
}

// opensAgain: where a key was ever made and no turn fails, it opens, and does so behind every crash in the same state.
func (w *world) opensAgain() {
	w.t.Helper()
	w.real.Trouble(0)
	for _, o := range w.owners {
		if !w.pasts[o].made {
			continue
		}
		s, e := signet.Open(w.real, o.set, o.seeds, 1)
		w.meets("P26: Open", e, api.OK)
		first := s.State()
		w.opensBehindAll(o, first)
		w.real.Crash([]bool{w.chance.Intn(2) == 1})
		s, e = signet.Open(w.real, o.set, o.seeds, 1)
		w.meets("P26: Open once more", e, api.OK)
		if s.State() != first {
			w.t.Fatalf("P26: opened once more, the state is %v, was %v, behind %v", s.State(), first, w.said)
		}
	}
}

func TestSignersAtLongRuns(t *testing.T) {
	chance := rand.New(rand.NewSource(11))
	small := newOwner(t, setA, seedsA)
	deep := newOwner(t, setB, seedsB)
	broad := newOwner(t, api.Set{Kind: 1, Bytes: 4, Wide: 4, Tall: 2, Layers: 2}, seedsA)
	namesake := newOwner(t, setA, seedsOf(setA))
	for run := range 600 {
		owners := [][]*owner{{small, namesake, deep}, {broad, small}, {deep, broad, small}}[run%3]
		w := newWorld(t, chance, owners)
		for range 60 {
			w.step()
		}
		w.opensAgain()
	}
}

// TestEveryTurnAndEveryFate: one failing turn and one crash at each place of a short life, and then indices go on behind all that were given out.
func TestEveryTurnAndEveryFate(t *testing.T) {
	key := unhex(t, "01041002012841c69863636363")
	for k := 1; k <= 14; k++ {
		for _, keep := range [][]bool{nil, {false}, {true}} {
			for stop := range 5 {
				d := newDisk(t, 2)
				used := map[int]string{}
				d.Trouble(k)
				s, _ := signet.Make(d, setA, seedsA, 1)
				for range stop {
					giveOut(t, s, key, used)
				}
				d.Crash(keep)
				for range 4 {
					s, e := signet.Open(d, setA, seedsA, 1)
					if e == api.ErrNone && len(used) == 0 {
						s, e = signet.Make(d, setA, seedsA, 1)
					}
					meetBegin(t, "P26: Open", s, e, api.OK)
					giveOut(t, s, key, used)
				}
			}
		}
	}
}

func giveOut(t *testing.T, s *signet.Signer, key string, used map[int]string) {
	t.Helper()
	if s == nil {
		return
	}
	sig, e := s.Sign("m")
	if e != api.OK {
		return
	}
	p, e := signet.Split(setA, sig)
	if e != api.OK || used[p.Index] != "" || p.Index >= 4 {
		t.Fatalf("P25: the index %d, %d, where %v were given out", p.Index, e, used)
	}
	used[p.Index] = sig
	meetErrno(t, "P25: Verify", signet.Verify(key, "m", sig), api.OK)
}

func TestWholeLivesOfSigners(t *testing.T) {
	for _, c := range []api.Set{setA, setB, setC, deepSet, {Kind: 2, Bytes: 8, Wide: 16, Tall: 4, Layers: 1}, {Kind: 1, Bytes: 8, Wide: 16, Tall: 2, Layers: 3}} {
		for _, batch := range []int{1, 3, 64} {
			d := newDisk(t, 2)
			s, e := signet.Make(d, c, seedsOf(c), batch)
			meetBegin(t, "P18: Make", s, e, api.OK)
			z, _ := signet.Measure(c)
			for k := range z.Total {
				meetSign(t, s, fmt.Sprint("message ", k), k)
			}
			was := d.Count()
			if want := 1 + (z.Total+batch-1)/batch; was.Writes != want || was.Syncs != want+1 {
				t.Errorf("P27: %v by the batch %d: %v", c, batch, was)
			}
			meetTurns(t, "P27: behind the last one", d, 0, func() {
				for range 3 {
					meetNoSign(t, s, "", api.ErrSpent)
				}
			})
			meetCount(t, d, was)
		}
	}
}

// TestDigitsOfTwoValues: neither has all its digits at most as great as the other's, else a signature of the one would make one of the other.
func TestDigitsOfTwoValues(t *testing.T) {
	chance := rand.New(rand.NewSource(5))
	for _, c := range rightSets() {
		if c.Tall > 1 || c.Layers > 1 {
			continue
		}
		for range 2000 {
			first := make([]byte, c.Bytes)
			chance.Read(first)
			second := []byte(string(first))
			second[chance.Intn(c.Bytes)] ^= byte(1 + chance.Intn(255))
			if chance.Intn(2) == 0 {
				second[chance.Intn(c.Bytes)] |= byte(chance.Intn(256))
			}
			if string(first) == string(second) {
				continue
			}
			if !greaterSomewhere(c, first, second) || !greaterSomewhere(c, second, first) {
				t.Fatalf("P28: %v: the digits of %x and %x", c, first, second)
			}
		}
	}
}

func greaterSomewhere(c api.Set, x []byte, y []byte) bool {
	more, _ := signet.Digits(c, string(x))
	less, _ := signet.Digits(c, string(y))
	for i := range more {
		if more[i] > less[i] {
			return true
		}
	}
	return false
}
