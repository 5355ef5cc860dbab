package signet_test

import (
	"fmt"
	"math"
	"strings"
	"testing"

	"signet/api"
	"signet/signet"
)

// begin is Make or Open.
type begin func(d *signet.Disk, c api.Set, seeds api.Seeds, batch int) (*signet.Signer, api.Errno)

var idA = "\x88\xd2\x2f\xf1\x7a\xd3\x28\x6b"

// longMessage is one byte longer than a message may be.
var longMessage = strings.Repeat("x", 201)

func plainKey(t *testing.T, c api.Set, seeds api.Seeds) string {
	t.Helper()
	rows := plainTree(t, c, seeds, api.Place{Layer: c.Layers - 1})
	return in1(c.Kind) + in1(c.Bytes) + in1(c.Wide) + in1(c.Tall) + in1(c.Layers) + rows[c.Tall][0] + seeds.Public
}

func plainId(c api.Set, key string) string {
	return plainDigest(c.Kind, "\x07"+key)[:8]
}

func meetBegin(t *testing.T, what string, s *signet.Signer, e api.Errno, want api.Errno) {
	t.Helper()
	if e != want || (s != nil) != (want == api.OK) {
		t.Fatalf("%s: %v, %d, want %d", what, s, e, want)
	}
}

func meetState(t *testing.T, s *signet.Signer, next int, bound int, seq int, over bool) {
	t.Helper()
	want := api.State{Next: next, Bound: bound, Seq: seq, Over: over}
	if got := s.State(); got != want {
		t.Fatalf("P20: State() = %v, want %v", got, want)
	}
}

func meetReserve(t *testing.T, s *signet.Signer, m int, want int, wantErr api.Errno) {
	t.Helper()
	if n, e := s.Reserve(m); n != want || e != wantErr {
		t.Fatalf("P21: Reserve(%d) = %d, %d, want %d, %d", m, n, e, want, wantErr)
	}
}

func meetNoSign(t *testing.T, s *signet.Signer, msg string, want api.Errno) {
	t.Helper()
	sig, e := s.Sign(msg)
	meetText(t, fmt.Sprintf("P22: Sign of %d bytes", len(msg)), sig, e, "", want)
}

// meetSign signs, verifies, and tells the signature; its index is to be this one.
func meetSign(t *testing.T, s *signet.Signer, msg string, index int) string {
	t.Helper()
	sig, e := s.Sign(msg)
	if e != api.OK || !strings.HasPrefix(sig, in4(index)) {
		t.Fatalf("P22: Sign of %d bytes: %.12x.., %d, want the index %d", len(msg), sig, e, index)
	}
	if e := signet.Verify(s.Key(), msg, sig); e != api.OK {
		t.Fatalf("P24: Verify of the signature %d answers %d", index, e)
	}
	return sig
}

// meetTurns tells whether a call takes so many turns: the trouble lies behind them.
func meetTurns(t *testing.T, what string, d *signet.Disk, turns int, call func()) {
	t.Helper()
	d.Trouble(turns + 1)
	call()
	if _, e := d.Read(0); e != api.ErrDisk {
		t.Fatalf("%s: behind %d turns the next one answers %d, so there were others", what, turns, e)
	}
}

func madeOver(t *testing.T, d *signet.Disk, batch int) *signet.Signer {
	t.Helper()
	s, e := signet.Make(d, setA, seedsA, batch)
	meetBegin(t, "P18: Make", s, e, api.OK)
	return s
}

func openedOver(t *testing.T, d *signet.Disk, batch int) *signet.Signer {
	t.Helper()
	s, e := signet.Open(d, setA, seedsA, batch)
	meetBegin(t, "P19: Open", s, e, api.OK)
	return s
}

// openedAt is a signer of A whose last record has these numbers.
func openedAt(t *testing.T, seq int, bound int, batch int) (*signet.Disk, *signet.Signer) {
	t.Helper()
	d := newDisk(t, 2)
	writeAll(t, d, seq%2, plainSeal(api.Record{Seq: seq, Bound: bound, Id: idA}))
	return d, openedOver(t, d, batch)
}

func TestSignerExample(t *testing.T) {
	d := newDisk(t, 2)
	var s *signet.Signer
	meetTurns(t, "P18: Make", d, 5, func() { s = madeOver(t, d, 2) })
	if want := unhex(t, "01041002012841c69863636363"); s.Key() != want {
		t.Errorf("P20: Key() = %x, want %x", s.Key(), want)
	}
	meetCount(t, d, api.Counts{Writes: 1, Syncs: 2})
	meetSector(t, d, 0, zeros)
	meetSector(t, d, 1, unhex(t, "73676e740000000188d22ff17ad3286b00000000000000000000000041f6db3d"))
	meetState(t, s, 0, 0, 1, false)
	sig, e := s.Sign("hello")
	meetText(t, "P22: Sign(hello)", sig, e, helloA(t), api.OK)
	meetState(t, s, 1, 2, 2, false)
	meetSector(t, d, 0, unhex(t, "73676e740000000288d22ff17ad3286b000000020000000000000000141e7158"))
	for i := 1; i < 4; i++ {
		meetSign(t, s, "more", i)
	}
	meetNoSign(t, s, "more", api.ErrSpent)
	for _, c := range []api.Set{setA, setB, setC} {
		s, e := signet.Make(d, c, seedsOf(c), 1)
		meetBegin(t, "P18: Make where a key is", s, e, api.ErrMade)
		s, e = signet.Open(d, c, seedsOf(c), 1)
		meetBegin(t, "P19: Open by another key", s, e, api.ErrNone)
	}
}

func TestKeysAndFirstRecordsOfEverySet(t *testing.T) {
	for _, c := range rightSets() {
		seeds := seedsOf(c)
		key := plainKey(t, c, seeds)
		d := newDisk(t, 8)
		s, e := signet.Make(d, c, seeds, 64)
		meetBegin(t, fmt.Sprint("P18: Make of ", c), s, e, api.OK)
		meetText(t, fmt.Sprint("P20: Key of ", c), s.Key(), api.OK, key, api.OK)
		meetState(t, s, 0, 0, 1, false)
		meetSector(t, d, 1, plainSeal(api.Record{Seq: 1, Id: plainId(c, key)}))
		for _, i := range []int{0, 2, 3, 4, 5, 6, 7} {
			meetSector(t, d, i, zeros)
		}
		again, e := signet.Open(d, c, seeds, 1)
		meetBegin(t, fmt.Sprint("P19: Open of ", c), again, e, api.OK)
		meetText(t, fmt.Sprint("P20: Key of ", c), again.Key(), api.OK, key, api.OK)
		meetState(t, again, 0, 0, 1, false)
		meetState(t, s, 0, 0, 1, true)
	}
}

func TestMakeAndOpenRefuseWrongArguments(t *testing.T) {
	for what, call := range map[string]begin{"P18: Make": signet.Make, "P19: Open": signet.Open} {
		d := newDisk(t, 2)
		s := madeOver(t, d, 1)
		was := d.Count()
		meetTurns(t, what+", refused", d, 0, func() {
			for _, c := range wrongSets() {
				x, e := call(nil, c, api.Seeds{}, 0)
				meetBegin(t, fmt.Sprint(what, " of ", c), x, e, api.ErrSet)
				x, e = call(d, c, seedsA, 1)
				meetBegin(t, fmt.Sprint(what, " of ", c), x, e, api.ErrSet)
			}
			for _, seeds := range wrongSeeds(setA) {
				x, e := call(d, setA, seeds, 1)
				meetBegin(t, what+" by wrong seeds", x, e, api.ErrArg)
			}
			for _, batch := range append(edges, 63, 64, 65, 1<<32+1) {
				if batch < 1 || batch > 64 {
					x, e := call(d, setA, seedsA, batch)
					meetBegin(t, fmt.Sprint(what, " by the batch ", batch), x, e, api.ErrArg)
				}
			}
		})
		x, e := call(nil, setA, seedsA, 1)
		meetBegin(t, what+" over no disk", x, e, api.ErrArg)
		x, e = call(newDisk(t, 1), setA, seedsA, 1)
		meetBegin(t, what+" over one sector", x, e, api.ErrArg)
		meetCount(t, d, was)
		meetState(t, s, 0, 0, 1, false)
		meetSign(t, s, "still there", 0)
	}
}

func TestMakeAndOpenTakeEveryBatchAndDisk(t *testing.T) {
	for n := 2; n <= 8; n++ {
		d := newDisk(t, n)
		meetState(t, madeOver(t, d, 64), 0, 0, 1, false)
		meetState(t, openedOver(t, d, 1), 0, 0, 1, false)
	}
	for batch := 1; batch <= 64; batch++ {
		s := madeOver(t, newDisk(t, 2), batch)
		meetSign(t, s, "", 0)
		meetState(t, s, 1, min(batch, 4), 2, false)
	}
}

func TestMakeFailsAtEachTurn(t *testing.T) {
	for k := 1; k <= 5; k++ {
		d := newDisk(t, 3)
		writeAll(t, d, 2, filled(1))
		d.Trouble(k)
		s, e := signet.Make(d, setA, seedsA, 1)
		meetBegin(t, fmt.Sprint("P18: Make whose turn ", k, " fails"), s, e, api.ErrDisk)
		want := api.Counts{Writes: 1, Syncs: 1}
		if k == 1 {
			want = api.Counts{Writes: 1, Pending: 1}
		}
		if k == 5 {
			want = api.Counts{Writes: 2, Syncs: 1, Pending: 1}
		}
		meetCount(t, d, want)
		meetErrno(t, "P15: a turn behind the one that failed", d.Sync(), api.OK)
		s, e = signet.Make(d, setA, seedsA, 1)
		wantErr := api.OK
		if k == 5 {
			wantErr = api.ErrMade
		}
		meetBegin(t, fmt.Sprint("P18: Make once more, behind the turn ", k), s, e, wantErr)
		meetState(t, openedOver(t, d, 1), 0, 0, 1, false)
	}
}

// TestMakeWhoseRecordIsLost: its last Sync fails, and so a crash decides whether it was made.
func TestMakeWhoseRecordIsLost(t *testing.T) {
	for _, kept := range []bool{false, true} {
		d := newDisk(t, 2)
		d.Trouble(5)
		s, e := signet.Make(d, setA, seedsA, 1)
		meetBegin(t, "P18: Make whose Sync fails", s, e, api.ErrDisk)
		d.Crash([]bool{kept})
		s, e = signet.Open(d, setA, seedsA, 1)
		if kept {
			meetBegin(t, "P19: Open", s, e, api.OK)
			meetState(t, s, 0, 0, 1, false)
			continue
		}
		meetBegin(t, "P19: Open", s, e, api.ErrNone)
		meetState(t, madeOver(t, d, 1), 0, 0, 1, false)
	}
}

func TestMakeWhereRecordsAre(t *testing.T) {
	seal := plainSeal(api.Record{Seq: 9, Bound: 4096, Id: "12345678"})
	spoiled := seal[:31] + "?"
	for _, c := range []struct {
		texts [3]string
		want  api.Errno
	}{
		{[3]string{seal, zeros, zeros}, api.ErrMade},
		{[3]string{zeros, seal, zeros}, api.ErrMade},
		{[3]string{seal, seal, seal}, api.ErrMade},
		{[3]string{spoiled, seal, zeros}, api.ErrMade},
		{[3]string{zeros, plainSeal(api.Record{Seq: 1, Id: idA}), zeros}, api.ErrMade},
		{[3]string{spoiled, spoiled, seal}, api.OK},
		{[3]string{filled(1), filled(2), filled(3)}, api.OK},
	} {
		for _, synced := range []bool{true, false} {
			d, want := newDisk(t, 3), c.texts
			for i, text := range c.texts {
				writeAll(t, d, i, text)
			}
			if synced {
				d.Sync()
			}
			turns := 3
			if c.want == api.OK {
				turns = 5
				want[1] = plainSeal(api.Record{Seq: 1, Id: idA})
			}
			meetTurns(t, "P18: Make where texts are", d, turns, func() {
				s, e := signet.Make(d, setA, seedsA, 1)
				meetBegin(t, "P18: Make where texts are", s, e, c.want)
			})
			d.Crash(nil)
			for i, text := range want {
				meetSector(t, d, i, text)
			}
		}
	}
}

func TestOpenTakesThreeTurnsAndWritesNothing(t *testing.T) {
	d := newDisk(t, 2)
	s := madeOver(t, d, 2)
	for k := 1; k <= 3; k++ {
		d.Trouble(k)
		x, e := signet.Open(d, setA, seedsA, 2)
		meetBegin(t, fmt.Sprint("P19: Open whose turn ", k, " fails"), x, e, api.ErrDisk)
		meetState(t, s, 0, 0, 1, true)
	}
	was := d.Count()
	meetTurns(t, "P19: Open", d, 3, func() { openedOver(t, d, 2) })
	meetCount(t, d, api.Counts{Writes: was.Writes, Syncs: was.Syncs + 1})
	meetTurns(t, "P19: Open by another key", d, 3, func() {
		x, e := signet.Open(d, setB, seedsB, 2)
		meetBegin(t, "P19: Open by another key", x, e, api.ErrNone)
	})
	meetCount(t, d, api.Counts{Writes: was.Writes, Syncs: was.Syncs + 2})
}

// TestOpenSyncsAheadOfReading: what it goes on from outlasts every crash.
func TestOpenSyncsAheadOfReading(t *testing.T) {
	d := newDisk(t, 2)
	writeAll(t, d, 0, plainSeal(api.Record{Seq: 2, Bound: 3, Id: idA}))
	meetState(t, openedOver(t, d, 2), 3, 3, 2, false)
	d.Crash(nil)
	meetState(t, openedOver(t, d, 2), 3, 3, 2, false)
}

// TestOpenChoosesAmongTwoSectors: each two of these texts, in either order.
func TestOpenChoosesAmongTwoSectors(t *testing.T) {
	records := []api.Record{{}, {Seq: 7, Bound: 2, Id: "12345678"}}
	for _, seq := range []int{1, 2, 3, 4, math.MaxInt32 - 1, math.MaxInt32} {
		for _, bound := range []int{0, 1, 3, 4, 5, 4096} {
			records = append(records, api.Record{Seq: seq, Bound: bound, Id: idA})
		}
	}
	for _, even := range records {
		for _, odd := range records {
			d := newDisk(t, 2)
			var best api.Record
			for i, r := range []api.Record{even, odd} {
				if r.Seq > 0 {
					writeAll(t, d, i, plainSeal(r))
				}
				if r.Id == idA && r.Bound <= 4 && (r.Seq > best.Seq || r.Seq == best.Seq && r.Bound > best.Bound) {
					best = r
				}
			}
			s, e := signet.Open(d, setA, seedsA, 2)
			if best.Seq == 0 {
				meetBegin(t, "P19: Open of "+told(even)+" "+told(odd), s, e, api.ErrNone)
				continue
			}
			meetBegin(t, "P19: Open of "+told(even)+" "+told(odd), s, e, api.OK)
			meetState(t, s, best.Bound, best.Bound, best.Seq, false)
		}
	}
}

func TestOpenWhereNoRecordIs(t *testing.T) {
	seal := plainSeal(api.Record{Seq: 1, Id: idA})
	for _, texts := range [][]string{{zeros, zeros, seal}, {seal[:31] + "?", "?" + seal[1:], seal}, {filled(1), filled(2), filled(3)}} {
		d := newDisk(t, 3)
		for i, text := range texts {
			writeAll(t, d, i, text)
		}
		s, e := signet.Open(d, setA, seedsA, 1)
		meetBegin(t, "P19: Open where no record is", s, e, api.ErrNone)
	}
}

// TestSignersThatAreOver: by whatever they are over, they stay as they were.
func TestSignersThatAreOver(t *testing.T) {
	for what, end := range map[string]func(d *signet.Disk){
		"Make":             func(d *signet.Disk) { signet.Make(d, setB, seedsB, 1) },
		"Make that fails":  func(d *signet.Disk) { d.Trouble(1); signet.Make(d, setA, seedsA, 1) },
		"Open":             func(d *signet.Disk) { signet.Open(d, setA, seedsA, 1) },
		"Open of none":     func(d *signet.Disk) { signet.Open(d, setB, seedsB, 1) },
		"Open that fails":  func(d *signet.Disk) { d.Trouble(1); signet.Open(d, setA, seedsA, 1) },
		"Crash(nil)":       func(d *signet.Disk) { d.Crash(nil) },
		"Crash of the two": func(d *signet.Disk) { d.Crash([]bool{true, true}) },
	} {
		d, other := newDisk(t, 2), newDisk(t, 2)
		s, stays := madeOver(t, d, 3), madeOver(t, other, 3)
		meetSign(t, s, "one", 0)
		meetState(t, s, 1, 3, 2, false)
		end(d)
		was := d.Count()
		for range 2 {
			meetState(t, s, 1, 3, 2, true)
			meetTurns(t, "P20: a signer over by "+what, d, 0, func() {
				meetNoSign(t, s, "two", api.ErrOver)
				meetNoSign(t, s, longMessage, api.ErrOver)
				meetReserve(t, s, 1, 0, api.ErrOver)
				meetReserve(t, s, 0, 0, api.ErrOver)
			})
		}
		meetCount(t, d, was)
		if s.Key() != stays.Key() {
			t.Errorf("P20: %s: the key of a signer that is over: %x", what, s.Key())
		}
		meetState(t, stays, 0, 0, 1, false)
		meetState(t, openedOver(t, d, 1), 3, 3, 2, false)
		meetState(t, s, 1, 3, 2, true)
	}
}

func TestWhatLeavesSignersAsTheyAre(t *testing.T) {
	d := newDisk(t, 3)
	s := madeOver(t, d, 2)
	d.Read(0)
	writeAll(t, d, 2, filled(1))
	d.Sync()
	d.Trouble(1)
	d.Sync()
	d.Trouble(-1)
	d.Count()
	newDisk(t, 2).Crash(nil)
	madeOver(t, newDisk(t, 2), 1)
	meetState(t, s, 0, 0, 1, false)
	meetSign(t, s, "one", 0)
}

func TestReserve(t *testing.T) {
	d := newDisk(t, 2)
	s := madeOver(t, d, 1)
	for _, m := range append(edges, 65, 1<<32+1) {
		if m < 1 || m > 64 {
			meetTurns(t, "P21: Reserve of a wrong number", d, 0, func() { meetReserve(t, s, m, 0, api.ErrArg) })
		}
	}
	meetState(t, s, 0, 0, 1, false)
	meetTurns(t, "P21: Reserve", d, 2, func() { meetReserve(t, s, 1, 1, api.OK) })
	meetState(t, s, 0, 1, 2, false)
	meetSector(t, d, 0, plainSeal(api.Record{Seq: 2, Bound: 1, Id: idA}))
	meetReserve(t, s, 2, 3, api.OK)
	meetSector(t, d, 1, plainSeal(api.Record{Seq: 3, Bound: 3, Id: idA}))
	meetTurns(t, "P22: Sign of what is reserved", d, 0, func() { meetSign(t, s, "", 0) })
	meetReserve(t, s, 64, 4, api.OK)
	meetState(t, s, 1, 4, 4, false)
	meetSector(t, d, 0, plainSeal(api.Record{Seq: 4, Bound: 4, Id: idA}))
	meetTurns(t, "P21: Reserve of a signer that has all", d, 0, func() {
		meetReserve(t, s, 1, 0, api.ErrSpent)
		meetReserve(t, s, 65, 0, api.ErrArg)
	})
	meetTurns(t, "P22: Sign of what is reserved", d, 0, func() {
		for i := 1; i < 4; i++ {
			meetSign(t, s, "", i)
		}
		meetNoSign(t, s, "", api.ErrSpent)
	})
	meetCount(t, d, api.Counts{Writes: 4, Syncs: 5})
}

// TestReservationsThatFail: at the Write or the Sync, by Reserve or Sign, and with each fate of what was pending.
func TestReservationsThatFail(t *testing.T) {
	for _, k := range []int{1, 2} {
		for _, sign := range []bool{true, false} {
			for _, end := range []string{"none", "lost", "kept"} {
				d := newDisk(t, 2)
				s := madeOver(t, d, 2)
				meetSign(t, s, "one", 0)
				meetSign(t, s, "two", 1)
				d.Trouble(k)
				if sign {
					meetNoSign(t, s, "three", api.ErrDisk)
				} else {
					meetReserve(t, s, 2, 0, api.ErrDisk)
				}
				meetState(t, s, 2, 2, 2, true)
				meetCount(t, d, api.Counts{Writes: 1 + k, Syncs: 3, Pending: k - 1})
				meetNoSign(t, s, "three", api.ErrOver)
				if end != "none" {
					d.Crash([]bool{end == "kept"})
				}
				next, seq := 2, 2
				if k == 2 && end != "lost" {
					next, seq = 4, 3
				}
				meetState(t, openedOver(t, d, 2), next, next, seq, false)
				meetState(t, s, 2, 2, 2, true)
			}
		}
	}
}

func TestReservationOverAFullDisk(t *testing.T) {
	d := newDisk(t, 3)
	s := madeOver(t, d, 2)
	for i := range 16 {
		writeAll(t, d, 2, filled(i))
	}
	meetTurns(t, "P20: a reservation over a full disk", d, 1, func() { meetNoSign(t, s, "", api.ErrDisk) })
	meetState(t, s, 0, 0, 1, true)
	meetCount(t, d, api.Counts{Writes: 17, Syncs: 2, Pending: 16})
	meetState(t, openedOver(t, d, 2), 0, 0, 1, false)
}

func TestSignRefusesLongMessages(t *testing.T) {
	d := newDisk(t, 2)
	s := madeOver(t, d, 2)
	meetTurns(t, "P22: Sign of a long message", d, 0, func() {
		meetNoSign(t, s, longMessage, api.ErrLong)
		meetNoSign(t, s, strings.Repeat("\x00", 1<<20), api.ErrLong)
	})
	meetState(t, s, 0, 0, 1, false)
	meetSign(t, s, longMessage[1:], 0)
	meetSign(t, s, "", 1)
	meetSign(t, s, strings.Repeat("\xff", 200), 2)
	meetSign(t, s, "\x00", 3)
	meetNoSign(t, s, longMessage, api.ErrLong)
	meetNoSign(t, s, "", api.ErrSpent)
}

func TestSignersAtTheGreatestSeq(t *testing.T) {
	d, s := openedAt(t, math.MaxInt32-1, 1, 1)
	meetSign(t, s, "", 1)
	meetState(t, s, 2, 2, math.MaxInt32, false)
	meetSector(t, d, 1, plainSeal(api.Record{Seq: math.MaxInt32, Bound: 2, Id: idA}))
	meetTurns(t, "P22: behind the greatest Seq", d, 0, func() {
		meetNoSign(t, s, "", api.ErrSpent)
		meetNoSign(t, s, longMessage, api.ErrLong)
		meetReserve(t, s, 1, 0, api.ErrSpent)
		meetReserve(t, s, 0, 0, api.ErrArg)
	})
	meetState(t, s, 2, 2, math.MaxInt32, false)
	d, s = openedAt(t, math.MaxInt32-1, 1, 1)
	meetReserve(t, s, 2, 3, api.OK)
	meetTurns(t, "P22: with some left at the greatest Seq", d, 0, func() {
		meetReserve(t, s, 1, 0, api.ErrSpent)
		meetSign(t, s, "", 1)
		meetSign(t, s, "", 2)
		meetNoSign(t, s, "", api.ErrSpent)
	})
	meetState(t, s, 3, 3, math.MaxInt32, false)
}

func TestSignersOpenedWhereAllIsSpent(t *testing.T) {
	d, s := openedAt(t, 5, 4, 64)
	meetTurns(t, "P22: where all is spent", d, 0, func() {
		meetNoSign(t, s, "", api.ErrSpent)
		meetReserve(t, s, 64, 0, api.ErrSpent)
	})
	meetState(t, s, 4, 4, 5, false)
}

// TestSameStepsGiveSameSignatures: over two disks, with others at work between.
func TestSameStepsGiveSameSignatures(t *testing.T) {
	first, second := madeOver(t, newDisk(t, 2), 1), madeOver(t, newDisk(t, 5), 64)
	for i := range 4 {
		msg := someText(50 * i)
		if x, y := meetSign(t, first, msg, i), meetSign(t, second, msg, i); x != y {
			t.Errorf("P2: two signatures under the index %d: %x, %x", i, x, y)
		}
		signet.Make(newDisk(t, 2), setB, seedsB, 1)
	}
}
