// Package disks is a disk that keeps in a cache what it is given till it is synced, and that can fail or crash.
package disks

import (
	"slices"

	"signet/api"
)

// sector is an array, so that each text that goes in or comes out is a copy.
type sector [api.SectorLen]byte

type write struct {
	at   int
	text sector
}

// Disk holds what would outlast a crash apart from what is pending, so that a crash can lose any part of that.
type Disk struct {
	durable []sector
	pending []write // in the order in which they came
	writes  int
	syncs   int
	trouble int // how many turns from now on one fails; with 0 none does
	term    int // a signer of an earlier one is over
}

// New makes a disk of n sectors.
func New(n int) (*Disk, api.Errno) {
	if n < 1 || n > api.MaxSectors {
		return nil, api.ErrArg
	}
	return &Disk{durable: make([]sector, n)}, api.OK
}

// Read tells what was written to a sector last.
func (d *Disk) Read(i int) (string, api.Errno) {
	if !d.has(i) {
		return "", api.ErrSector
	}
	if d.fails() {
		return "", api.ErrDisk
	}
	text := d.latest(i)
	return string(text[:]), api.OK
}

// Write takes its turn even if too many writes are pending: a refusal for that is one of the disk's.
func (d *Disk) Write(i int, s string) api.Errno {
	if !d.has(i) {
		return api.ErrSector
	}
	if len(s) != api.SectorLen {
		return api.ErrArg
	}
	if d.fails() || len(d.pending) == api.MaxPending {
		return api.ErrDisk
	}
	d.pending = append(d.pending, write{at: i, text: sector([]byte(s))})
	d.writes++
	return api.OK
}

// Sync makes all durable that is pending.
func (d *Disk) Sync() api.Errno {
	if d.fails() {
		return api.ErrDisk
	}
	for _, w := range d.pending {
		d.durable[w.at] = w.text
	}
	d.pending = nil
	d.syncs++
	return api.OK
}

// Trouble says which turn from now on is to fail.
func (d *Disk) Trouble(k int) api.Errno {
	if k < 0 {
		return api.ErrArg
	}
	d.trouble = k
	return api.OK
}

// Crash makes some of what is pending durable and loses the rest.
func (d *Disk) Crash(keep []bool) {
	for i, w := range d.pending {
		if i < len(keep) && keep[i] {
			d.durable[w.at] = w.text
		}
	}
	d.pending = nil
	d.trouble = 0
	d.NewTerm()
}

// Count tells what the disk has done.
func (d *Disk) Count() api.Counts {
	return api.Counts{Writes: d.writes, Syncs: d.syncs, Pending: len(d.pending)}
}

// Sectors tells how many there are.
func (d *Disk) Sectors() int {
	return len(d.durable)
}

// Term tells the disk's signers apart: one that began in another term than this is over. The disk need not know them for that.
func (d *Disk) Term() int {
	return d.term
}

// NewTerm leaves all signers over that are there.
func (d *Disk) NewTerm() {
	d.term++
}

func (d *Disk) has(i int) bool {
	return 0 <= i && i < len(d.durable)
}

// fails counts a turn, and tells whether it is the one that is to fail. So it is asked once a turn, when nothing but the disk can refuse.
func (d *Disk) fails() bool {
	if d.trouble == 0 {
		return false
	}
	d.trouble--
	return d.trouble == 0
}

func (d *Disk) latest(i int) sector {
	for _, w := range slices.Backward(d.pending) {
		if w.at == i {
			return w.text
		}
	}
	return d.durable[i]
}
