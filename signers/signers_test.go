package signers

import (
	"testing"

	"signet/api"
	"signet/disks"
)

func made(t *testing.T) *Signer {
	t.Helper()
	d, _ := disks.New(2)
	c := api.Set{Kind: 1, Bytes: 4, Wide: 16, Tall: 2, Layers: 1}
	s, e := Make(d, c, api.Seeds{Secret: "aaaa", Random: "bbbb", Public: "cccc"}, 2)
	if e != api.OK {
		t.Fatalf("P18: Make answers %d", e)
	}
	return s
}

// leftByPanic takes the disk away, so that the first turn panics.
func leftByPanic(t *testing.T, s *Signer) {
	t.Helper()
	defer func() {
		if recover() == nil {
			t.Fatal("a reservation without a disk did not panic")
		}
	}()
	s.disk = nil
	s.reserve(1)
}

// TestReservationLeftByWhateverWay: a panic too leaves the signer over.
func TestReservationLeftByWhateverWay(t *testing.T) {
	s := made(t)
	d, was := s.disk, s.last
	leftByPanic(t, s)
	s.disk = d
	if !s.over || s.last != was {
		t.Errorf("P20: behind a panic the signer is over: %v, its record is %v, was %v", s.over, s.last, was)
	}
	if sig, e := s.Sign(""); sig != "" || e != api.ErrOver {
		t.Errorf("P22: Sign behind a panic: %x, %d", sig, e)
	}
}

func TestReservationThatIsSyncedLeavesTheSigner(t *testing.T) {
	s := made(t)
	for m := 1; m <= 3; m++ {
		if e := s.reserve(1); e != api.OK || s.over || s.last.Bound != m {
			t.Fatalf("P20: the reservation %d answers %d, over %v, record %v", m, e, s.over, s.last)
		}
	}
}

// TestStepsStopWhereOneRefuses: those behind it are not taken.
func TestStepsStopWhereOneRefuses(t *testing.T) {
	d, _ := disks.New(2)
	o := &opening{disk: d, id: "12345678", total: 4}
	e := o.done([]step{(*opening).sync, (*opening).takeLast, (*opening).layFirst, (*opening).sync})
	if want := (api.Counts{Syncs: 1}); e != api.ErrNone || d.Count() != want {
		t.Errorf("P18: the steps answer %d, and the disk has done %v", e, d.Count())
	}
}
