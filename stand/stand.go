// Package stand tells what stands on a device, number by number, for the layers that go
// through all of it.
package stand

import (
	"sgraffito/api"
	"sgraffito/audit"
	"sgraffito/flash"
	"sgraffito/mix"
	"sgraffito/record"
	"sgraffito/region"
	"sgraffito/reopen"
)

// Stand is what stands on a device: a report, the regions, and each number's location.
type Stand struct {
	Report    audit.Report
	Regions   *region.Log
	Locations map[uint64]region.Loc
}

// On tells what stands on a device, or the error of a look at it.
func On(d *flash.Device) (Stand, api.Errno) {
	r, e := audit.Look(d)
	if e != api.OK {
		return Stand{}, e
	}
	l, e := reopen.Regions(d, r.Head, r.Changes)
	if e != api.OK {
		return Stand{}, e
	}
	return Stand{r, l, locations(r)}, api.OK
}

// Record tells the record that is read at a number's location; false, if none is, or one
// of a key of another number.
func (s Stand) Record(number uint64) (record.Record, bool) {
	at, is := s.Locations[number]
	if !is {
		return record.Record{}, false
	}
	b, e := s.Regions.Read(at)
	if e != api.OK {
		return record.Record{}, false
	}
	x, size, e := record.Unpack(b)
	if e != api.OK || size != len(b) || mix.Hash(s.Report.Head.Plan.Seed, x.Key) != number {
		return record.Record{}, false
	}
	return x, true
}

// locations tells each number's location. Changes are not put into buckets, but upon
// what these have: so what a bucket has no room for is told, too.
func locations(r audit.Report) map[uint64]region.Loc {
	all := map[uint64]region.Loc{}
	for _, x := range r.Slots {
		for _, y := range x.Bucket.Entries {
			all[y.Hash] = y.Loc
		}
	}
	for _, x := range r.Changes {
		if x.Drop {
			delete(all, x.Hash)
		} else {
			all[x.Hash] = x.Loc
		}
	}
	return all
}
