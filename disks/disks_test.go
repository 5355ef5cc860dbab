package disks_test

import (
	"testing"

	"signet/api"
	"signet/disks"
)

// TestOnlyACrashEndsATerm: no turn and no trouble does, else a signer would be over that is not.
func TestOnlyACrashEndsATerm(t *testing.T) {
	d, e := disks.New(2)
	if e != api.OK {
		t.Fatalf("P13: New(2) answers %d", e)
	}
	seen := map[int]int{}
	for crash := range 5 {
		term := d.Term()
		if was, ok := seen[term]; ok {
			t.Fatalf("P16: behind %d crashes the term is that behind %d", crash, was)
		}
		seen[term] = crash
		d.Read(0)
		d.Write(1, "short")
		d.Write(1, "a text of thirty-two bytes......")
		d.Sync()
		d.Trouble(1)
		d.Sync()
		d.Count()
		if d.Term() != term {
			t.Fatalf("P16: the term %d becomes %d without a crash", term, d.Term())
		}
		d.Crash(nil)
	}
}
