package scrub

import (
	"bytes"
	"fmt"
	"slices"
	"testing"

	"sgraffito/api"
	"sgraffito/audit"
	"sgraffito/bucket"
	"sgraffito/flash"
	"sgraffito/leaf"
	"sgraffito/mix"
	"sgraffito/plan"
)

// stands tells of each number where it stands as the chapter words it: all that the slots
// and then the changes say, one behind the other, of which the last word counts.
func stands(r audit.Report) (list []bucket.Entry) {
	put := func(x bucket.Entry, drop bool) {
		list = slices.DeleteFunc(list, func(y bucket.Entry) bool { return y.Hash == x.Hash })
		if !drop {
			list = append(list, x)
		}
	}
	for _, x := range r.Slots {
		for _, y := range x.Bucket.Entries {
			put(y, false)
		}
	}
	for _, x := range r.Changes {
		put(bucket.Entry{Hash: x.Hash, Loc: x.Loc}, x.Drop)
	}
	return list
}

// sector tells the load of a region's sector, if it is of it.
func sector(d *flash.Device, p plan.Plan, q, n int) (load []byte, is bool) {
	x, _ := plan.Fit(p)
	place := q%p.Regions*p.RegionSectors + n
	b, e := d.Read(x.Region + place)
	if e != api.OK {
		return nil, false
	}
	l, e := leaf.Read(b)
	return l.Load, e == api.OK && l.Kind == 3 && l.Place == place && l.Stamp == q
}

// isThere tells whether a region is one of a report's.
func isThere(r audit.Report, q int) bool {
	return slices.ContainsFunc(r.Regions, func(x audit.Region) bool { return x.Number == q })
}

// isRead tells whether an entry is read as a record of its number.
func isRead(d *flash.Device, r audit.Report, y bucket.Entry) bool {
	p := r.Head.Plan
	var b []byte
	for n := range p.RegionSectors {
		load, is := sector(d, p, y.Loc.Region, n)
		from, to := max(y.Loc.At, n*(p.Size-19)), min(y.Loc.At+y.Loc.Size, (n+1)*(p.Size-19))
		if from < to && !is {
			return false
		}
		for at := from; at < to; at++ {
			b = append(b, load[at-n*(p.Size-19)])
		}
	}
	size := len(b)
	if size < 14 || b[0] != 165 || b[1] == 0 || b[1] > 64 || size != 13+int(b[1])+int(b[2])+int(b[3])<<8 || b[size-1] != 90 {
		return false
	}
	return bytes.Equal(b[10:12], []byte{0, 0}) && mix.Hash(p.Seed, b[12:12+b[1]]) == y.Hash
}

// worded tells what can still be read as the chapter words it.
func worded(d *flash.Device) (Result, api.Errno) {
	r, e := audit.Look(d)
	var x Result
	oldest := 1
	if len(r.Regions) > 0 {
		oldest = r.Regions[0].Number
	}
	for _, y := range stands(r) {
		switch {
		case y.Loc.Region < oldest:
			x.Stale = append(x.Stale, y.Hash)
		case isThere(r, y.Loc.Region) && isRead(d, r, y):
			x.Good = append(x.Good, y.Hash)
		default:
			x.Bad = append(x.Bad, y.Hash)
		}
	}
	slices.Sort(x.Stale)
	slices.Sort(x.Good)
	slices.Sort(x.Bad)
	for _, y := range r.Regions {
		first, last, count := 0, -1, 0
		for n := range r.Head.Plan.RegionSectors {
			if _, is := sector(d, r.Head.Plan, y.Number, n); is {
				last, count = n, count+1
			}
		}
		if count == last-first+1 {
			x.Sound = append(x.Sound, y.Number)
		} else {
			x.Broken = append(x.Broken, y.Number)
		}
	}
	return x, e
}

// scrubs holds a scrub to what stands on the device, and tells it: nothing may be
// written.
func scrubs(t *testing.T, name string, d *flash.Device) (Result, api.Errno) {
	t.Helper()
	before := d.Copy()
	r, e := Scrub(d)
	want, f := worded(d)
	if e != f || fmt.Sprint(r) != fmt.Sprint(want) {
		t.Fatalf("%s: error %d, want %d:\n%v, want\n%v", name, e, f, r, want)
	}
	if !same(d, before) {
		t.Fatalf("%s: it is changed", name)
	}
	return r, e
}
