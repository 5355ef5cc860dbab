// Package signers gives out signatures over a disk, each under an index that was reserved there ahead of it.
package signers

import (
	"signet/api"
	"signet/disks"
	"signet/keys"
	"signet/sets"
	"signet/signatures"
)

// Signer signs by one key.
type Signer struct {
	disk  *disks.Disk
	term  int // of the disk, when the signer began
	key   keys.Key
	seeds api.Seeds
	total int // of the key's indices
	batch int
	next  int
	last  api.Record // that is durable
	over  bool       // by a reservation that failed
}

// Make makes a key's signer over a disk on which there is none yet.
func Make(d *disks.Disk, c api.Set, seeds api.Seeds, batch int) (*Signer, api.Errno) {
	return begun(d, c, seeds, batch, []step{
		(*opening).sync,
		(*opening).readEven,
		(*opening).readOdd,
		(*opening).refuseMade,
		(*opening).layFirst,
		(*opening).sync,
	})
}

// Open makes a key's signer anew. It syncs ahead of reading: what it goes on from must not be lost by a crash that comes later.
func Open(d *disks.Disk, c api.Set, seeds api.Seeds, batch int) (*Signer, api.Errno) {
	return begun(d, c, seeds, batch, []step{
		(*opening).sync,
		(*opening).readEven,
		(*opening).readOdd,
		(*opening).takeLast,
	})
}

func begun(d *disks.Disk, c api.Set, seeds api.Seeds, batch int, steps []step) (*Signer, api.Errno) {
	z, e := sets.Measure(c)
	if e != api.OK {
		return nil, e
	}
	if d == nil || d.Sectors() < sectors || !isBatch(batch) {
		return nil, api.ErrArg
	}
	key, e := keys.Of(c, seeds)
	if e != api.OK {
		return nil, e
	}
	d.NewTerm()
	o := &opening{disk: d, id: key.Id(), total: z.Total}
	if e := o.done(steps); e != api.OK {
		return nil, e
	}
	return &Signer{
		disk:  d,
		term:  d.Term(),
		key:   key,
		seeds: seeds,
		total: z.Total,
		batch: batch,
		next:  o.last.Bound,
		last:  o.last,
	}, api.OK
}

func isBatch(m int) bool {
	return 1 <= m && m <= api.MaxBatch
}

// Key tells the key by which signatures are verified.
func (s *Signer) Key() string {
	return s.key.Text()
}

// State tells how far the signer is.
func (s *Signer) State() api.State {
	return api.State{Next: s.next, Bound: s.last.Bound, Seq: s.last.Seq, Over: s.isOver()}
}

func (s *Signer) isOver() bool {
	return s.over || s.term != s.disk.Term()
}

// Reserve reserves indices ahead.
func (s *Signer) Reserve(m int) (int, api.Errno) {
	if s.isOver() {
		return 0, api.ErrOver
	}
	if !isBatch(m) {
		return 0, api.ErrArg
	}
	if s.last.Bound == s.total || s.last.Seq == api.MaxSeq {
		return 0, api.ErrSpent
	}
	if e := s.reserve(m); e != api.OK {
		return 0, e
	}
	return s.last.Bound, api.OK
}

// Sign moves on ahead of signing, so that no index is used twice whatever happens then.
func (s *Signer) Sign(msg string) (string, api.Errno) {
	if s.isOver() {
		return "", api.ErrOver
	}
	if len(msg) > api.MaxMessage {
		return "", api.ErrLong
	}
	none := s.next == s.last.Bound
	if s.next == s.total || none && s.last.Seq == api.MaxSeq {
		return "", api.ErrSpent
	}
	if none {
		if e := s.reserve(s.batch); e != api.OK {
			return "", e
		}
	}
	index := s.next
	s.next++
	return signatures.Sign(s.key, s.seeds, index, msg), api.OK
}

// reserve must not be tried again where it fails: its record may be on the disk or not, and only one who reads the disk anew can tell. There must be indices and a Seq left.
func (s *Signer) reserve(m int) api.Errno {
	synced := false
	defer func() {
		s.over = !synced
	}()
	r := api.Record{Seq: s.last.Seq + 1, Bound: min(s.last.Bound+m, s.total), Id: s.last.Id}
	if e := lay(s.disk, r); e != api.OK {
		return e
	}
	if e := s.disk.Sync(); e != api.OK {
		return e
	}
	synced = true
	s.last = r
	return api.OK
}
