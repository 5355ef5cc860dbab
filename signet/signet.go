// Package signet: signatures each under an index that is used once, over a disk that may lose what was not synced: see DOC.md.
package signet

import (
	"signet/api"
	"signet/digest"
	"signet/disks"
	"signet/records"
	"signet/sets"
	"signet/signatures"
	"signet/signers"
	"signet/trees"
	"signet/walks"
)

// Digest tells the digest of a text (P3).
func Digest(kind int, n int, s string) (string, api.Errno) { return digest.Of(kind, n, s) }

// Sum tells the check sum of a text (P4).
func Sum(s string) int { return digest.Sum(s) }

// Check tells whether a set is right (P5).
func Check(c api.Set) api.Errno { return sets.Check(c) }

// Measure tells what follows from a set (P5).
func Measure(c api.Set) (api.Sizes, api.Errno) { return sets.Measure(c) }

// Digits tells the places on the chains that a value picks (P6).
func Digits(c api.Set, m string) ([]int, api.Errno) { return sets.Digits(c, m) }

// Start tells where a chain begins (P7).
func Start(c api.Set, seeds api.Seeds, at api.Place) (string, api.Errno) {
	return trees.Start(c, seeds, at)
}

// Chain goes along a chain (P7).
func Chain(c api.Set, public string, at api.Place, from int, to int, x string) (string, api.Errno) {
	return trees.Chain(c, public, at, from, to, x)
}

// Fold makes a leaf's value out of the ends of its chains (P8).
func Fold(c api.Set, public string, at api.Place, ends []string) (string, api.Errno) {
	return trees.Fold(c, public, at, ends)
}

// NodeOf tells the value of a node of a tree (P9).
func NodeOf(c api.Set, seeds api.Seeds, at api.Place, height int, number int) (string, api.Errno) {
	return trees.NodeOf(c, seeds, at, height, number)
}

// Climb goes from a leaf up to the root (P10).
func Climb(c api.Set, public string, at api.Place, x string, path []string) (string, api.Errno) {
	return trees.Climb(c, public, at, x, path)
}

// Walk goes from leaf to leaf of a tree.
type Walk struct {
	steps *walks.Walk
}

// NewWalk begins at the first leaf (P11).
func NewWalk(c api.Set, seeds api.Seeds, at api.Place) (*Walk, api.Errno) {
	t, e := trees.New(c, seeds, at)
	if e != api.OK {
		return nil, e
	}
	return &Walk{steps: walks.New(c.Tall, t.Leaf, t.Join)}, api.OK
}

// At tells the leaf's number (P11).
func (w *Walk) At() int { return w.steps.At() }

// Path tells the leaf's path (P11).
func (w *Walk) Path() []string { return w.steps.Path() }

// Stack tells what the walk holds for the paths to come (P12).
func (w *Walk) Stack(h int) ([]api.Node, api.Errno) { return w.steps.Stack(h) }

// Next goes to the next leaf (P12).
func (w *Walk) Next() api.Errno { return w.steps.Next() }

// Disk is a disk.
type Disk struct {
	store *disks.Disk
}

// NewDisk makes a disk (P13).
func NewDisk(n int) (*Disk, api.Errno) {
	store, e := disks.New(n)
	if e != api.OK {
		return nil, e
	}
	return &Disk{store: store}, api.OK
}

// Read tells what a sector holds (P14).
func (d *Disk) Read(i int) (string, api.Errno) { return d.store.Read(i) }

// Write lays a text into a sector; it is pending then (P14).
func (d *Disk) Write(i int, s string) api.Errno { return d.store.Write(i, s) }

// Sync makes last what is pending (P14).
func (d *Disk) Sync() api.Errno { return d.store.Sync() }

// Trouble says which turn of the disk is to fail (P15).
func (d *Disk) Trouble(k int) api.Errno { return d.store.Trouble(k) }

// Crash keeps some of what is pending and loses the rest (P16).
func (d *Disk) Crash(keep []bool) { d.store.Crash(keep) }

// Count tells what the disk has done (P14).
func (d *Disk) Count() api.Counts { return d.store.Count() }

// Seal makes a sector's text out of a record (P17).
func Seal(r api.Record) (string, api.Errno) { return records.Seal(r) }

// Unseal reads a record out of a sector's text (P17).
func Unseal(s string) (api.Record, api.Errno) { return records.Unseal(s) }

// Signer signs by one key.
type Signer struct {
	hand *signers.Signer
}

// Make makes a key's signer over a disk on which there is none yet (P18).
func Make(d *Disk, c api.Set, seeds api.Seeds, batch int) (*Signer, api.Errno) {
	return given(signers.Make(d.below(), c, seeds, batch))
}

// Open makes a key's signer anew, from what the disk holds (P19).
func Open(d *Disk, c api.Set, seeds api.Seeds, batch int) (*Signer, api.Errno) {
	return given(signers.Open(d.below(), c, seeds, batch))
}

// below lets a nil disk through, which Make and Open are to refuse only behind a wrong set.
func (d *Disk) below() *disks.Disk {
	if d == nil {
		return nil
	}
	return d.store
}

func given(hand *signers.Signer, e api.Errno) (*Signer, api.Errno) {
	if e != api.OK {
		return nil, e
	}
	return &Signer{hand: hand}, api.OK
}

// Key tells the key by which signatures are verified (P20).
func (s *Signer) Key() string { return s.hand.Key() }

// State tells how far the signer is (P20).
func (s *Signer) State() api.State { return s.hand.State() }

// Reserve reserves indices ahead (P21).
func (s *Signer) Reserve(m int) (int, api.Errno) { return s.hand.Reserve(m) }

// Sign signs a message (P22).
func (s *Signer) Sign(msg string) (string, api.Errno) { return s.hand.Sign(msg) }

// Split reads a signature's parts (P23).
func Split(c api.Set, sig string) (api.Parsed, api.Errno) { return signatures.Split(c, sig) }

// Join lays a signature's parts together (P23).
func Join(c api.Set, p api.Parsed) (string, api.Errno) { return signatures.Join(c, p) }

// Verify tells whether a signature is a message's, by a key (P24).
func Verify(key string, msg string, sig string) api.Errno { return signatures.Verify(key, msg, sig) }
