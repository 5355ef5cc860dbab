package signers

import (
	"signet/api"
	"signet/disks"
	"signet/records"
)

// sectors of a disk are the journal's. Records take turns in them, so that the last but one is whole while the last is written.
const sectors = 2

// lay writes a record into the journal; it is pending then.
func lay(d *disks.Disk, r api.Record) api.Errno {
	text, e := records.Seal(r)
	if e != api.OK {
		return e
	}
	return d.Write(r.Seq%sectors, text)
}

// opening is what Make and Open have found out so far. Its methods are their steps.
type opening struct {
	disk  *disks.Disk
	id    string
	total int
	found []api.Record // of any key
	last  api.Record   // from which the signer goes on
}

type step func(o *opening) api.Errno

// done takes the steps in their order till one refuses.
func (o *opening) done(steps []step) api.Errno {
	for _, take := range steps {
		if e := take(o); e != api.OK {
			return e
		}
	}
	return api.OK
}

func (o *opening) sync() api.Errno {
	return o.disk.Sync()
}

func (o *opening) readEven() api.Errno {
	return o.read(0)
}

func (o *opening) readOdd() api.Errno {
	return o.read(1)
}

// read does not refuse a sector without a record: there may be none yet, or somebody else's text.
func (o *opening) read(i int) api.Errno {
	text, e := o.disk.Read(i)
	if e != api.OK {
		return e
	}
	if r, e := records.Unseal(text); e == api.OK {
		o.found = append(o.found, r)
	}
	return api.OK
}

func (o *opening) refuseMade() api.Errno {
	if len(o.found) > 0 {
		return api.ErrMade
	}
	return api.OK
}

func (o *opening) layFirst() api.Errno {
	o.last = api.Record{Seq: 1, Id: o.id}
	return lay(o.disk, o.last)
}

// takeLast begins with a record whose Seq is less than that of any other, so that one of this key is taken if there is one.
func (o *opening) takeLast() api.Errno {
	for _, r := range o.found {
		if r.Id == o.id && r.Bound <= o.total && later(r, o.last) {
			o.last = r
		}
	}
	if o.last.Seq == 0 {
		return api.ErrNone
	}
	return api.OK
}

func later(r api.Record, than api.Record) bool {
	return r.Seq > than.Seq || r.Seq == than.Seq && r.Bound > than.Bound
}
