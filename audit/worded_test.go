package audit

import (
	"bytes"
	"encoding/binary"
	"fmt"
	"hash/crc32"
	"maps"
	"slices"
	"testing"

	"sgraffito/api"
	"sgraffito/bucket"
	"sgraffito/delta"
	"sgraffito/flash"
	"sgraffito/index"
	"sgraffito/plan"
	"sgraffito/record"
	"sgraffito/region"
	"sgraffito/super"
)

// sector is what a sector's bytes say, read as the chapters word them: what a leaf has,
// if it is one.
type sector struct {
	leaf, nought bool
	kind, place  int
	stamp        int
	load         []byte
}

// number reads one of some bytes, the lowest first.
func number(b []byte) int {
	var eight [8]byte
	copy(eight[:], b)
	return int(binary.LittleEndian.Uint64(eight[:]))
}

// noughts tells whether all bytes are 0.
func noughts(b []byte) bool { return bytes.Count(b, []byte{0}) == len(b) }

// read reads a sector of a device.
func read(d *flash.Device, at int) sector {
	b, e := d.Read(at)
	if e != api.OK {
		return sector{}
	}
	if noughts(b) {
		return sector{nought: true}
	}
	end := len(b) - 4
	x := sector{kind: int(b[0]), place: number(b[3:7]), stamp: number(b[7:15])}
	size := 15 + number(b[1:3])
	check := crc32.Checksum(b[:end], crc32.MakeTable(crc32.Castagnoli))
	switch {
	case x.kind < 1 || x.kind > 4 || x.place >= 1<<31 || x.stamp < 0:
		return sector{}
	case size > end || !noughts(b[size:end]) || int(check) != number(b[end:]):
		return sector{}
	}
	x.leaf, x.load = true, b[15:size]
	return x
}

// worded looks at a device as the chapters word it, byte by byte, by a plan that is
// known.
type worded struct {
	d *flash.Device
	p plan.Plan
	x plan.Layout
}

// is reads a sector that is to be a leaf of a kind, place and stamp: nil, if it is not.
func (w worded) is(at, kind, place, stamp int) *sector {
	x := read(w.d, at)
	if !x.leaf || x.kind != kind || x.place != place || x.stamp != stamp {
		return nil
	}
	return &x
}

// head tells the newest one.
func (w worded) head() (best super.Head, ok bool) {
	for at := range 2 {
		x := read(w.d, at)
		if !x.leaf || x.kind != 1 || x.place != at || x.stamp%2 != at || len(x.load) != 63 {
			continue
		}
		b := x.load
		p, e := plan.Unpack(b[:26])
		h := super.Head{
			Plan:   p,
			Gen:    x.stamp,
			Root:   super.Ref{Page: number(b[26:30]), Stamp: number(b[30:38])},
			Depth:  int(b[38]),
			Log:    number(b[39:47]),
			Region: number(b[47:55]),
			Time:   number(b[55:63]),
		}
		if e == api.OK && p.Sectors == w.d.Sectors() && p.Size == w.d.Size() && h.Gen > best.Gen {
			best, ok = h, true
		}
	}
	return best, ok
}

// refs reads some references, nil if there are not so many.
func (w worded) refs(at super.Ref, count int) []super.Ref {
	x := w.is(w.x.Page+at.Page, 2, at.Page, at.Stamp)
	if x == nil || len(x.load) != 12*count {
		return nil
	}
	var list []super.Ref
	for b := range slices.Chunk(x.load, 12) {
		list = append(list, super.Ref{Page: number(b[:4]), Stamp: number(b[4:])})
	}
	return list
}

// bucket reads one.
func (w worded) bucket(at super.Ref) (b bucket.Bucket, ok bool) {
	x := w.is(w.x.Page+at.Page, 2, at.Page, at.Stamp)
	if x == nil || len(x.load) < 10 || len(x.load) != 10+20*int(x.load[1]) {
		return b, false
	}
	b.Depth, b.Prefix = int(x.load[0]), number(x.load[2:10])
	for y := range slices.Chunk(x.load[10:], 20) {
		b.Entries = append(b.Entries, bucket.Entry{Hash: uint64(number(y[:8])), Loc: loc(y[8:])})
	}
	return b, true
}

// loc reads a location.
func loc(b []byte) region.Loc {
	return region.Loc{Region: number(b[:8]), At: number(b[8:10]), Size: number(b[10:12])}
}

// index reads a head's.
func (w worded) index(h super.Head) (slots []index.Slot, pages []int, ok bool) {
	count := 1 << h.Depth
	rows := w.refs(h.Root, (count+w.x.Per-1)/w.x.Per)
	all := map[int]int{h.Root.Page: 1}
	for n, at := range rows {
		all[at.Page]++
		for _, r := range w.refs(at, min(w.x.Per, count-n*w.x.Per)) {
			b, is := w.bucket(r)
			if !is {
				return nil, nil, false
			}
			all[r.Page]++
			slots = append(slots, index.Slot{Ref: r, Bucket: b})
		}
	}
	return slots, slices.Sorted(maps.Keys(all)), len(slots) == count
}

// log reads it from a number on.
func (w worded) log(from int) (list []delta.Change, time int) {
	for n := from; n < from+w.p.LogSectors; n++ {
		place := n % w.p.LogSectors
		x := w.is(w.x.Log+place, 4, place, n)
		if x == nil {
			break
		}
		time = max(time, number(x.load[:8]))
		for y := range slices.Chunk(x.load[9:], 21) {
			list = append(list, delta.Change{Drop: y[0] == 2, Hash: uint64(number(y[1:9])), Loc: loc(y[9:])})
		}
	}
	return list, time
}

// last tells the greatest number of a region: the head's, one of a change, or one that
// stands as a stamp where it may.
func (w worded) last(h super.Head, list []delta.Change) int {
	last := h.Region
	for _, x := range list {
		last = max(last, x.Loc.Region)
	}
	for place := range w.p.Regions * w.p.RegionSectors {
		x := read(w.d, w.x.Region+place)
		if x.leaf && x.kind == 3 && x.place == place && x.stamp%w.p.Regions == place/w.p.RegionSectors {
			last = max(last, x.stamp)
		}
	}
	return last
}

// records reads a region's.
func (w worded) records(q int) (list []record.Record) {
	var b []byte
	for n := range w.p.RegionSectors {
		place := q%w.p.Regions*w.p.RegionSectors + n
		x := w.is(w.x.Region+place, 3, place, q)
		if x == nil {
			break
		}
		b = append(b, x.load...)
	}
	for len(b) > 0 {
		if b[0] == 0 {
			b = b[1:]
			continue
		}
		if len(b) < 13 || b[0] != 165 || b[1] == 0 || b[1] > 64 {
			break
		}
		key, size := 12+int(b[1]), 12+int(b[1])+number(b[2:4])
		if size >= len(b) || b[size] != 90 {
			break
		}
		list = append(list, record.Record{Key: b[12:key], Value: b[key:size], End: number(b[4:12])})
		b = b[size+1:]
	}
	return list
}

// look tells the report, and whether there is one.
func (w worded) look() (Report, bool) {
	h, is := w.head()
	if !is {
		return Report{}, false
	}
	r := Report{Head: h}
	r.Slots, r.Pages, is = w.index(h)
	if !is {
		return Report{}, false
	}
	r.Changes, r.Time = w.log(h.Log)
	r.Time = max(r.Time, h.Time)
	last := w.last(h, r.Changes)
	for q := max(1, last-w.p.Regions+1); q <= last; q++ {
		r.Regions = append(r.Regions, Region{q, w.records(q)})
	}
	return r, true
}

// torn tells the sectors that are neither 0 nor leaves.
func (w worded) torn() (list []int) {
	for at := range w.d.Sectors() {
		if x := read(w.d, at); !x.leaf && !x.nought {
			list = append(list, at)
		}
	}
	return list
}

// live tells how many of a report's locations are those of regions that are there.
func live(r Report) int {
	var list []region.Loc
	for _, x := range r.Slots {
		for _, y := range x.Bucket.Entries {
			there := slices.ContainsFunc(r.Regions, func(z Region) bool { return z.Number == y.Loc.Region })
			if there && !slices.Contains(list, y.Loc) {
				list = append(list, y.Loc)
			}
		}
	}
	return len(list)
}

// looks holds a look at a device to what stands there, and tells it: nothing may be
// written.
func looks(t *testing.T, name string, d *flash.Device, p plan.Plan) (Report, bool) {
	t.Helper()
	x, _ := plan.Fit(p)
	w := worded{d, p, x}
	before := d.Copy()
	r, e := Look(d)
	want, is := w.look()
	if is && e != api.OK || !is && e != api.ErrLost {
		t.Fatalf("%s: error %d; is there a report: %v", name, e, is)
	}
	if got, want := fmt.Sprint(r), fmt.Sprint(want); got != want {
		t.Fatalf("%s:\n%s, want\n%s", name, got, want)
	}
	if is && !Shape(r.Head.Depth, r.Slots) {
		t.Fatalf("%s: the shape is not right: %v", name, r.Slots)
	}
	if l := Torn(d); !slices.Equal(l, w.torn()) {
		t.Fatalf("%s: torn %d, want %d", name, l, w.torn())
	}
	if n := Live(r); n != live(want) {
		t.Fatalf("%s: live %d, want %d", name, n, live(want))
	}
	if !same(d, before) {
		t.Fatalf("%s: it is changed", name)
	}
	return r, is
}
