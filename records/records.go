// Package records lays records into the texts of sectors and reads them back.
package records

import (
	"signet/api"
	"signet/digest"
)

const (
	mark  = "sgnt"
	spare = "\x00\x00\x00\x00\x00\x00\x00\x00"
)

// Where the parts of a record's text begin.
const (
	seqAt   = len(mark)
	idAt    = seqAt + 4
	boundAt = idAt + api.IdLen
	spareAt = boundAt + 4
)

// Seal makes a sector's text out of a record.
func Seal(r api.Record) (string, api.Errno) {
	if !right(r) {
		return "", api.ErrArg
	}
	text := mark + digest.Number(r.Seq, 4) + r.Id + digest.Number(r.Bound, 4) + spare
	return text + digest.Number(digest.Sum(text), 4), api.OK
}

// Unseal seals anew what it has read: a text that differs from that anywhere, in its mark, its spare bytes or its sum, is none that Seal makes.
func Unseal(s string) (api.Record, api.Errno) {
	if len(s) != api.SectorLen {
		return api.Record{}, api.ErrRecord
	}
	r := api.Record{
		Seq:   digest.NumberIn(s[seqAt:idAt]),
		Bound: digest.NumberIn(s[boundAt:spareAt]),
		Id:    s[idAt:boundAt],
	}
	if again, e := Seal(r); e != api.OK || again != s {
		return api.Record{}, api.ErrRecord
	}
	return r, api.OK
}

func right(r api.Record) bool {
	return 1 <= r.Seq && r.Seq <= api.MaxSeq &&
		0 <= r.Bound && r.Bound <= api.MaxBound &&
		len(r.Id) == api.IdLen
}
