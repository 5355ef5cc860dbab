package signet_test

import (
	"fmt"
	"hash/crc32"
	"math"
	"strings"
	"testing"

	"signet/api"
	"signet/signet"
)

// summed lays the check sum behind 28 bytes, whether or not they are a record's.
func summed(text string) string {
	return text + in4(int(crc32.ChecksumIEEE([]byte(text))))
}

func plainSeal(r api.Record) string {
	return summed("sgnt" + in4(r.Seq) + r.Id + in4(r.Bound) + strings.Repeat("\x00", 8))
}

func told(r api.Record) string {
	return fmt.Sprintf("[%d %d %.40x]", r.Seq, r.Bound, r.Id)
}

func meetRecord(t *testing.T, s string, want api.Record, wantErr api.Errno) {
	t.Helper()
	if r, e := signet.Unseal(s); r != want || e != wantErr {
		t.Fatalf("P17: Unseal(%.40x) = %s, %d, want %s, %d", s, told(r), e, told(want), wantErr)
	}
}

func meetNoRecord(t *testing.T, s string) {
	t.Helper()
	meetRecord(t, s, api.Record{}, api.ErrRecord)
}

func TestSealExamples(t *testing.T) {
	id := unhex(t, "88d22ff17ad3286b")
	for _, c := range []struct {
		r    api.Record
		want string
	}{
		{api.Record{Seq: 1, Bound: 0, Id: id}, "73676e740000000188d22ff17ad3286b00000000000000000000000041f6db3d"},
		{api.Record{Seq: 2, Bound: 2, Id: id}, "73676e740000000288d22ff17ad3286b000000020000000000000000141e7158"},
	} {
		s, e := signet.Seal(c.r)
		meetText(t, "P17: Seal of "+told(c.r), s, e, unhex(t, c.want), api.OK)
		meetRecord(t, unhex(t, c.want), c.r, api.OK)
	}
}

func TestRecordsGoThereAndBack(t *testing.T) {
	for _, seq := range []int{1, 2, 255, 256, 257, 1 << 16, 1<<24 - 1, 1 << 24, 0x01020304, math.MaxInt32 - 1, math.MaxInt32} {
		for _, bound := range []int{0, 1, 255, 256, 257, 0x0102, 4095, 4096} {
			for _, id := range []string{zeros[:8], "\xff\xff\xff\xff\xff\xff\xff\xff", "12345678", "sgntsgnt", "\x80\x00\xc3\x28\x00\x01\xfe\xff"} {
				r := api.Record{Seq: seq, Bound: bound, Id: id}
				s, e := signet.Seal(r)
				meetText(t, "P17: Seal of "+told(r), s, e, plainSeal(r), api.OK)
				meetRecord(t, s, r, api.OK)
			}
		}
	}
}

func TestSealRefusesWrongRecords(t *testing.T) {
	right := api.Record{Seq: 5, Bound: 3, Id: "12345678"}
	var wrong []api.Record
	for _, v := range append(edges, -5, 1<<31, 1<<31+1, 1<<32+1, 4097, 8192) {
		if v < 1 || v > math.MaxInt32 {
			r := right
			r.Seq = v
			wrong = append(wrong, r)
		}
		if v < 0 || v > 4096 {
			r := right
			r.Bound = v
			wrong = append(wrong, r)
		}
	}
	for _, n := range []int{0, 1, 7, 9, 16, 1 << 20} {
		r := right
		r.Id = someText(n)
		wrong = append(wrong, r)
	}
	for _, r := range append(wrong, api.Record{}) {
		s, e := signet.Seal(r)
		meetText(t, "P17: Seal of "+told(r), s, e, "", api.ErrArg)
	}
}

func TestUnsealRefusesEverySpoiledByte(t *testing.T) {
	for _, r := range []api.Record{{Seq: 1, Id: zeros[:8]}, {Seq: math.MaxInt32, Bound: 4096, Id: "12345678"}} {
		s := plainSeal(r)
		for i := range 32 {
			for x := 1; x < 256; x++ {
				b := []byte(s)
				b[i] ^= byte(x)
				meetNoRecord(t, string(b))
			}
		}
	}
}

// TestUnsealRefusesWhatIsSummedButWrong: the sum alone does not make a record.
func TestUnsealRefusesWhatIsSummedButWrong(t *testing.T) {
	right := api.Record{Seq: 5, Bound: 3, Id: "12345678"}
	text := plainSeal(right)[:28]
	meetRecord(t, summed(text), right, api.OK)
	for _, i := range []int{0, 1, 2, 3, 20, 21, 22, 23, 24, 25, 26, 27} {
		for x := 1; x < 256; x++ {
			b := []byte(text)
			b[i] ^= byte(x)
			meetNoRecord(t, summed(string(b)))
		}
	}
	for _, seq := range []int{0, 1 << 31, 1<<31 + 1, math.MaxUint32} {
		meetNoRecord(t, plainSeal(api.Record{Seq: seq, Bound: 3, Id: "12345678"}))
	}
	for _, bound := range []int{4097, 1 << 16, 1 << 24, 1 << 31, 1<<31 + 3, math.MaxUint32} {
		meetNoRecord(t, plainSeal(api.Record{Seq: 5, Bound: bound, Id: "12345678"}))
	}
}

func TestUnsealRefusesOtherLengths(t *testing.T) {
	s := plainSeal(api.Record{Seq: 5, Bound: 3, Id: "12345678"})
	for n := range 32 {
		meetNoRecord(t, s[:n])
		meetNoRecord(t, s[32-n:])
	}
	meetNoRecord(t, s+"\x00")
	meetNoRecord(t, "\x00"+s)
	meetNoRecord(t, s+s)
	meetNoRecord(t, summed(s))
	meetNoRecord(t, zeros)
	meetNoRecord(t, strings.Repeat("\xff", 32))
	meetNoRecord(t, summed(zeros[:28]))
	meetNoRecord(t, strings.Repeat(s, 1<<15))
}

// TestARecordOnADisk: what Seal makes fits a sector, and a new sector holds no record.
func TestARecordOnADisk(t *testing.T) {
	d := newDisk(t, 2)
	r := api.Record{Seq: 5, Bound: 3, Id: "12345678"}
	s, _ := signet.Seal(r)
	writeAll(t, d, 1, s)
	s, _ = d.Read(1)
	meetRecord(t, s, r, api.OK)
	s, _ = d.Read(0)
	meetNoRecord(t, s)
}
