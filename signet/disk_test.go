package signet_test

import (
	"fmt"
	"math"
	"math/rand"
	"slices"
	"strings"
	"testing"

	"signet/api"
	"signet/signet"
)

var zeros = strings.Repeat("\x00", 32)

// filled is a sector's text that no other number gives, with zeros in it.
func filled(v int) string {
	return fmt.Sprintf("%031d\x00", v)
}

func newDisk(t *testing.T, n int) *signet.Disk {
	t.Helper()
	d, e := signet.NewDisk(n)
	if d == nil || e != api.OK {
		t.Fatalf("P13: NewDisk(%d): %v, %d", n, d, e)
	}
	return d
}

func meetErrno(t *testing.T, what string, e api.Errno, want api.Errno) {
	t.Helper()
	if e != want {
		t.Fatalf("%s answers %d, want %d", what, e, want)
	}
}

func meetSector(t *testing.T, d *signet.Disk, i int, want string) {
	t.Helper()
	s, e := d.Read(i)
	meetText(t, fmt.Sprintf("P14: Read(%d)", i), s, e, want, api.OK)
}

func meetCount(t *testing.T, d *signet.Disk, want api.Counts) {
	t.Helper()
	if c := d.Count(); c != want {
		t.Fatalf("P14: Count() = %v, want %v", c, want)
	}
}

func writeAll(t *testing.T, d *signet.Disk, i int, texts ...string) {
	t.Helper()
	for _, s := range texts {
		meetErrno(t, "P14: Write", d.Write(i, s), api.OK)
	}
}

func TestNewDisk(t *testing.T) {
	for n := 1; n <= 8; n++ {
		d := newDisk(t, n)
		meetCount(t, d, api.Counts{})
		for i := range n {
			meetSector(t, d, i, zeros)
		}
		for _, i := range outside(n) {
			s, e := d.Read(i)
			meetText(t, fmt.Sprintf("P14: Read(%d) of %d sectors", i, n), s, e, "", api.ErrSector)
			meetErrno(t, fmt.Sprintf("P14: Write(%d) of %d sectors", i, n), d.Write(i, filled(1)), api.ErrSector)
		}
		d.Crash(nil)
		for i := range n {
			meetSector(t, d, i, zeros)
		}
	}
	for _, n := range edges {
		if n >= 1 && n <= 8 {
			continue
		}
		if d, e := signet.NewDisk(n); d != nil || e != api.ErrArg {
			t.Errorf("P13: NewDisk(%d): %v, %d", n, d, e)
		}
	}
}

func TestDiskExample(t *testing.T) {
	s, u := filled(1), filled(2)
	for _, c := range []struct {
		keep []bool
		want string
	}{{[]bool{true}, s}, {nil, zeros}} {
		d := newDisk(t, 2)
		writeAll(t, d, 0, s, u)
		meetSector(t, d, 0, u)
		d.Crash(c.keep)
		meetSector(t, d, 0, c.want)
	}
}

func TestSectorsAreApart(t *testing.T) {
	d := newDisk(t, 8)
	for i := range 8 {
		writeAll(t, d, i, filled(i))
	}
	for range 2 {
		for i := range 8 {
			meetSector(t, d, i, filled(i))
		}
		meetErrno(t, "P14: Sync", d.Sync(), api.OK)
	}
}

// TestWrongWritesAreNoTurns: they leave all as it is, the trouble to come too.
func TestWrongWritesAreNoTurns(t *testing.T) {
	d := newDisk(t, 3)
	writeAll(t, d, 1, filled(1))
	d.Trouble(1)
	for _, n := range []int{0, 1, 31, 33, 64, 1 << 20} {
		meetErrno(t, fmt.Sprintf("P14: Write of %d bytes", n), d.Write(1, someText(n)), api.ErrArg)
		meetErrno(t, fmt.Sprintf("P1: Write of %d bytes to no sector", n), d.Write(3, someText(n)), api.ErrSector)
	}
	meetErrno(t, "P14: Write to no sector", d.Write(-1, filled(2)), api.ErrSector)
	s, e := d.Read(3)
	meetText(t, "P14: Read of no sector", s, e, "", api.ErrSector)
	meetCount(t, d, api.Counts{Writes: 1, Pending: 1})
	s, e = d.Read(1)
	meetText(t, "P15: the first turn", s, e, "", api.ErrDisk)
	meetSector(t, d, 1, filled(1))
}

func TestWritesBeyondThoseThatMayBePending(t *testing.T) {
	d := newDisk(t, 2)
	for i := range 16 {
		writeAll(t, d, i%2, filled(i))
	}
	for range 3 {
		meetErrno(t, "P14: the 17th Write", d.Write(1, filled(99)), api.ErrDisk)
		meetErrno(t, "P1: the 17th Write, too short", d.Write(1, "short"), api.ErrArg)
		meetErrno(t, "P1: the 17th Write, to no sector", d.Write(2, filled(99)), api.ErrSector)
	}
	meetCount(t, d, api.Counts{Writes: 16, Pending: 16})
	meetSector(t, d, 1, filled(15))
	meetErrno(t, "P14: Sync", d.Sync(), api.OK)
	meetCount(t, d, api.Counts{Writes: 16, Syncs: 1})
	writeAll(t, d, 1, filled(17))
	for i := range 15 {
		writeAll(t, d, 0, filled(i))
	}
	meetErrno(t, "P14: one more Write", d.Write(1, filled(99)), api.ErrDisk)
	d.Crash([]bool{true})
	meetSector(t, d, 0, filled(14))
	meetSector(t, d, 1, filled(17))
	for i := range 16 {
		writeAll(t, d, 0, filled(i))
	}
	meetErrno(t, "P14: Write behind 16 of them", d.Write(0, filled(99)), api.ErrDisk)
	meetCount(t, d, api.Counts{Writes: 48, Syncs: 1, Pending: 16})
}

// TestRefusedWriteIsATurn: by what it is refused does not matter.
func TestRefusedWriteIsATurn(t *testing.T) {
	for k := 1; k <= 3; k++ {
		d := newDisk(t, 1)
		for i := range 16 {
			writeAll(t, d, 0, filled(i))
		}
		d.Trouble(k)
		for range 2 {
			meetErrno(t, "P14: the 17th Write", d.Write(0, filled(99)), api.ErrDisk)
		}
		want := api.OK
		if k == 3 {
			want = api.ErrDisk
		}
		meetErrno(t, fmt.Sprintf("P15: Sync as third turn, with trouble at %d", k), d.Sync(), want)
		meetErrno(t, "P15: the next Sync", d.Sync(), api.OK)
		meetSector(t, d, 0, filled(15))
	}
}

func TestFailedTurnsChangeNothing(t *testing.T) {
	d := newDisk(t, 2)
	writeAll(t, d, 0, filled(1))
	d.Sync()
	writeAll(t, d, 0, filled(2))
	writeAll(t, d, 1, filled(3))
	want := api.Counts{Writes: 3, Syncs: 1, Pending: 2}
	d.Trouble(1)
	s, e := d.Read(0)
	meetText(t, "P15: Read that fails", s, e, "", api.ErrDisk)
	meetCount(t, d, want)
	d.Trouble(1)
	meetErrno(t, "P15: Write that fails", d.Write(0, filled(4)), api.ErrDisk)
	meetCount(t, d, want)
	d.Trouble(1)
	meetErrno(t, "P15: Sync that fails", d.Sync(), api.ErrDisk)
	meetCount(t, d, want)
	meetSector(t, d, 0, filled(2))
	d.Crash([]bool{false, true})
	meetSector(t, d, 0, filled(1))
	meetSector(t, d, 1, filled(3))
}

func TestTroubleMeetsOneTurn(t *testing.T) {
	for _, k := range []int{0, 1, 2, 3, 7, 100, math.MaxInt32, math.MaxInt} {
		d := newDisk(t, 1)
		meetErrno(t, "P15: Trouble", d.Trouble(k), api.OK)
		for turn := 1; turn <= 250; turn++ {
			var e api.Errno
			switch turn % 3 {
			case 0:
				e = d.Write(0, filled(turn))
			case 1:
				_, e = d.Read(0)
			case 2:
				e = d.Sync()
			}
			if (e == api.ErrDisk) != (turn == k) || e != api.OK && e != api.ErrDisk {
				t.Fatalf("P15: Trouble(%d): the turn %d answers %d", k, turn, e)
			}
		}
	}
}

func TestTroubleForgetsWhatWasSaid(t *testing.T) {
	for _, k := range []int{-1, -2, math.MinInt32, math.MinInt} {
		d := newDisk(t, 1)
		d.Trouble(2)
		meetErrno(t, "P15: Trouble below 0", d.Trouble(k), api.ErrArg)
		meetErrno(t, "P15: the first turn", d.Sync(), api.OK)
		meetErrno(t, "P1: the second turn", d.Sync(), api.ErrDisk)
	}
	d := newDisk(t, 1)
	d.Trouble(1)
	d.Trouble(2)
	meetErrno(t, "P15: the first turn", d.Sync(), api.OK)
	d.Trouble(2)
	meetErrno(t, "P15: the first turn behind that", d.Sync(), api.OK)
	meetErrno(t, "P15: the second turn behind that", d.Sync(), api.ErrDisk)
	d.Trouble(1)
	d.Trouble(0)
	for range 4 {
		meetErrno(t, "P15: a turn behind Trouble(0)", d.Sync(), api.OK)
	}
	d.Trouble(2)
	d.Crash(nil)
	for range 4 {
		meetErrno(t, "P16: a turn behind a crash", d.Sync(), api.OK)
	}
}

// TestCrashesOfEveryKind: each choice among five writes to two sectors, by lists that are too short, fit or are too long.
func TestCrashesOfEveryKind(t *testing.T) {
	sectors := []int{0, 1, 0, 0, 1}
	for length := range 8 {
		for mask := range 1 << length {
			keep := make([]bool, length)
			for i := range keep {
				keep[i] = mask>>i&1 == 1
			}
			d := newDisk(t, 2)
			writeAll(t, d, 0, filled(90))
			writeAll(t, d, 1, filled(91))
			d.Sync()
			want := []string{filled(90), filled(91)}
			for i, at := range sectors {
				writeAll(t, d, at, filled(i))
				if i < length && keep[i] {
					want[at] = filled(i)
				}
			}
			d.Crash(keep)
			meetCount(t, d, api.Counts{Writes: 7, Syncs: 1})
			for range 2 {
				meetSector(t, d, 0, want[0])
				meetSector(t, d, 1, want[1])
				d.Crash([]bool{true, true, true, true, true})
			}
		}
	}
}

func TestListOfACrashIsTheCallers(t *testing.T) {
	d := newDisk(t, 1)
	whole := []bool{true, false, true, true, true}
	writeAll(t, d, 0, filled(1), filled(2), filled(3))
	d.Crash(whole[:2])
	if !slices.Equal(whole, []bool{true, false, true, true, true}) {
		t.Errorf("P2: Crash writes into its list: %v", whole)
	}
	spoil(whole, false)
	meetSector(t, d, 0, filled(1))
	writeAll(t, d, 0, filled(4))
	spoil(whole, true)
	d.Crash(nil)
	meetSector(t, d, 0, filled(1))
	d.Crash(make([]bool, 1<<20))
	meetSector(t, d, 0, filled(1))
}

func TestDisksHaveNothingToDoWithOneAnother(t *testing.T) {
	first, second := newDisk(t, 2), newDisk(t, 2)
	writeAll(t, first, 0, filled(1))
	first.Sync()
	writeAll(t, first, 1, filled(2))
	first.Trouble(1)
	third := newDisk(t, 2)
	for _, d := range []*signet.Disk{second, third} {
		meetCount(t, d, api.Counts{})
		meetSector(t, d, 0, zeros)
		meetSector(t, d, 1, zeros)
		writeAll(t, d, 1, filled(3))
		d.Crash(nil)
	}
	meetCount(t, first, api.Counts{Writes: 2, Syncs: 1, Pending: 1})
	meetErrno(t, "P2, P15: Sync", first.Sync(), api.ErrDisk)
	meetSector(t, first, 0, filled(1))
	meetSector(t, first, 1, filled(2))
}

// plainDisk keeps all that was ever asked of a disk, and tells its answers out of that alone.
type plainDisk struct {
	n       int
	written []plainWrite
	turns   int
	bad     int // the number of the turn that fails
	syncs   int
}

type plainWrite struct {
	at   int
	text string
	fate byte // p is pending, d is durable, l is lost
}

func (p *plainDisk) turn() api.Errno {
	p.turns++
	if p.turns == p.bad {
		return api.ErrDisk
	}
	return api.OK
}

func (p *plainDisk) pending() []int {
	var all []int
	for i, w := range p.written {
		if w.fate == 'p' {
			all = append(all, i)
		}
	}
	return all
}

func (p *plainDisk) read(i int) (string, api.Errno) {
	if i < 0 || i >= p.n {
		return "", api.ErrSector
	}
	if e := p.turn(); e != api.OK {
		return "", e
	}
	text := zeros
	for _, w := range p.written {
		if w.at == i && w.fate != 'l' {
			text = w.text
		}
	}
	return text, api.OK
}

func (p *plainDisk) write(i int, s string) api.Errno {
	if i < 0 || i >= p.n {
		return api.ErrSector
	}
	if len(s) != 32 {
		return api.ErrArg
	}
	full := len(p.pending()) >= 16
	if e := p.turn(); e != api.OK || full {
		return api.ErrDisk
	}
	p.written = append(p.written, plainWrite{i, s, 'p'})
	return api.OK
}

func (p *plainDisk) sync() api.Errno {
	if e := p.turn(); e != api.OK {
		return e
	}
	for _, i := range p.pending() {
		p.written[i].fate = 'd'
	}
	p.syncs++
	return api.OK
}

func (p *plainDisk) trouble(k int) api.Errno {
	if k < 0 {
		return api.ErrArg
	}
	p.bad = 0
	if k > 0 {
		p.bad = p.turns + k
	}
	return api.OK
}

func (p *plainDisk) crash(keep []bool) {
	for number, i := range p.pending() {
		p.written[i].fate = 'l'
		if number < len(keep) && keep[number] {
			p.written[i].fate = 'd'
		}
	}
	p.bad = 0
}

func (p *plainDisk) count() api.Counts {
	return api.Counts{Writes: len(p.written), Syncs: p.syncs, Pending: len(p.pending())}
}

// done does one thing with both disks; it is told by two small numbers.
func done(t *testing.T, d *signet.Disk, p *plainDisk, what int, v int, keep []bool) string {
	t.Helper()
	var said string
	var e, want api.Errno
	switch what {
	case 0:
		said = fmt.Sprintf("Read(%d)", v-1)
		var s, text string
		s, e = d.Read(v - 1)
		text, want = p.read(v - 1)
		meetText(t, "P14: "+said, s, e, text, want)
	case 1:
		said = fmt.Sprintf("Write(%d)", v-1)
		text := filled(len(p.written))
		e, want = d.Write(v-1, text), p.write(v-1, text)
	case 2:
		said = fmt.Sprintf("Write(%d bytes)", 30+v)
		text := someText(30 + v)
		e, want = d.Write(0, text), p.write(0, text)
	case 3:
		said = "Sync()"
		e, want = d.Sync(), p.sync()
	case 4:
		said = fmt.Sprintf("Trouble(%d)", v-1)
		e, want = d.Trouble(v-1), p.trouble(v-1)
	case 5:
		said = fmt.Sprintf("Crash(%v)", keep)
		d.Crash(keep)
		p.crash(keep)
	}
	meetErrno(t, "P14 to P16: "+said, e, want)
	meetCount(t, d, p.count())
	return said
}

func TestDisksAtLongRuns(t *testing.T) {
	chance := rand.New(rand.NewSource(3))
	for run := range 400 {
		longRun(t, chance, 1+run%8, run%3 > 0)
	}
}

// longRun does many things in a row, mostly reads and writes if it is said so: then the disk is full now and then.
func longRun(t *testing.T, chance *rand.Rand, n int, mostly bool) {
	t.Helper()
	d, p := newDisk(t, n), &plainDisk{n: n}
	var said []string
	defer func() {
		if t.Failed() {
			t.Logf("behind %v", said)
		}
	}()
	for range 120 {
		what := chance.Intn(6)
		if mostly && chance.Intn(4) > 0 {
			what = chance.Intn(2)
		}
		keep := make([]bool, chance.Intn(18))
		for i := range keep {
			keep[i] = chance.Intn(2) == 1
		}
		said = append(said, done(t, d, p, what, chance.Intn(n+2), keep))
	}
	done(t, d, p, 4, 1, nil)
	for i := range n {
		done(t, d, p, 0, i+1, nil)
	}
}
