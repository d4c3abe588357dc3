package dump

import (
	"fmt"
	"slices"
	"testing"

	"sgraffito/api"
	"sgraffito/audit"
	"sgraffito/bucket"
	"sgraffito/flash"
	"sgraffito/leaf"
	"sgraffito/mix"
	"sgraffito/plan"
)

// stands tells of each number where it stands as the chapter words it: all that the slots
// and then the changes say, one behind the other, of which the last word counts.
func stands(r audit.Report) (list []bucket.Entry) {
	put := func(x bucket.Entry, drop bool) {
		list = slices.DeleteFunc(list, func(y bucket.Entry) bool { return y.Hash == x.Hash })
		if !drop {
			list = append(list, x)
		}
	}
	for _, x := range r.Slots {
		for _, y := range x.Bucket.Entries {
			put(y, false)
		}
	}
	for _, x := range r.Changes {
		put(bucket.Entry{Hash: x.Hash, Loc: x.Loc}, x.Drop)
	}
	return list
}

// bytesAt reads an entry's bytes from the device's sectors, if its region is there.
func bytesAt(d *flash.Device, r audit.Report, y bucket.Entry) (b []byte) {
	p := r.Head.Plan
	x, _ := plan.Fit(p)
	if !slices.ContainsFunc(r.Regions, func(z audit.Region) bool { return z.Number == y.Loc.Region }) {
		return nil
	}
	room := p.Size - 19
	for n := range p.RegionSectors { // none but those of which something is asked is looked at
		from, to := max(y.Loc.At, n*room), min(y.Loc.At+y.Loc.Size, n*room+room)
		if from >= to {
			continue
		}
		place := y.Loc.Region%p.Regions*p.RegionSectors + n
		l, e := leaf.Get(d, x.Region+place, 3, place)
		if e != api.OK || l.Stamp != y.Loc.Region {
			return nil
		}
		b = append(b, l.Load[from-n*room:to-n*room]...)
	}
	return b
}

// number reads one of some bytes, the lowest first.
func number(b []byte) (n int) {
	for place, x := range b {
		n |= int(x) << (8 * place)
	}
	return n
}

// worded tells a device's dump as the chapter words it, each item as its text.
func worded(d *flash.Device) (list []string, e api.Errno) {
	r, e := audit.Look(d)
	for _, y := range stands(r) {
		b := bytesAt(d, r, y)
		if len(b) < 14 || b[0] != 165 || b[1] == 0 || b[1] > 64 || b[len(b)-1] != 90 || len(b) != 13+int(b[1])+number(b[2:4]) {
			continue
		}
		key, value, end := b[12:12+b[1]], b[12+b[1]:len(b)-1], number(b[4:12])
		if mix.Hash(r.Head.Plan.Seed, key) == y.Hash && (end == 0 || end > r.Time) {
			list = append(list, textOf(Item{key, value, end}))
		}
	}
	slices.Sort(list) // as keys are: a byte is two signs, and what ends a key is below them all
	return list, e
}

// textOf tells an item.
func textOf(x Item) string { return fmt.Sprintf("%x %x/%d", x.Key, x.Value, x.End) }

// textsOf tells items.
func textsOf(l []Item) (list []string) {
	for _, x := range l {
		list = append(list, textOf(x))
	}
	return list
}

// takes holds a dump to what stands on the device, and tells it: nothing may be written.
func takes(t *testing.T, name string, d *flash.Device) ([]Item, api.Errno) {
	t.Helper()
	before := d.Copy()
	l, e := Take(d)
	want, f := worded(d)
	if e != f || !slices.Equal(textsOf(l), want) {
		t.Fatalf("%s: error %d, want %d:\n%q, want\n%q", name, e, f, textsOf(l), want)
	}
	if !same(d, before) {
		t.Fatalf("%s: it is changed", name)
	}
	return l, e
}
