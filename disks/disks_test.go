package disks_test

import (
	"testing"

	"signet/api"
	"signet/disks"
)

// TestWhatEndsATerm: a crash does, and whoever asks for a new one; no turn and no trouble does, else a signer would be over that is not.
func TestWhatEndsATerm(t *testing.T) {
	d, e := disks.New(2)
	if e != api.OK {
		t.Fatalf("P13: New(2) answers %d", e)
	}
	seen := map[int]int{}
	for ended := range 10 {
		term := d.Term()
		if was, ok := seen[term]; ok {
			t.Fatalf("P16, P18: behind %d terms the term is that behind %d", ended, was)
		}
		seen[term] = ended
		d.Read(0)
		d.Write(1, "short")
		d.Write(1, "a text of thirty-two bytes......")
		d.Sync()
		d.Trouble(1)
		d.Sync()
		d.Count()
		if d.Term() != term {
			t.Fatalf("P16, P18: the term %d becomes %d by itself", term, d.Term())
		}
		if ended%2 == 0 {
			d.Crash(nil)
		} else {
			d.NewTerm()
		}
	}
}

func TestSectors(t *testing.T) {
	for n := 1; n <= api.MaxSectors; n++ {
		if d, e := disks.New(n); e != api.OK || d.Sectors() != n {
			t.Errorf("P13: New(%d) answers %d and has %d sectors", n, e, d.Sectors())
		}
	}
}
