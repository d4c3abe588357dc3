package reopen

import (
	"fmt"
	"testing"

	"sgraffito/api"
	"sgraffito/bucket"
	"sgraffito/delta"
	"sgraffito/flash"
	"sgraffito/index"
	"sgraffito/leaf"
	"sgraffito/plan"
	"sgraffito/region"
	"sgraffito/store"
	"sgraffito/super"
)

var small = plan.Plan{Sectors: 140, Size: 96, Regions: 5, RegionSectors: 4, LogSectors: 5, Depth: 3, Memory: 8, Seed: 7}

// need fails the test at once, if an error is another one.
func need(t *testing.T, name string, got, want api.Errno) {
	t.Helper()
	if got != want {
		t.Fatalf("%s: error %d, want %d", name, got, want)
	}
}

// behind tells a device with an index of some generations, and the head of the last one.
func behind(t *testing.T) (*flash.Device, super.Head, []index.Slot) {
	t.Helper()
	d := flash.New(140, 96)
	s, e := store.Format(d, small)
	need(t, "Format", e, api.OK)
	x, e := index.Format(s)
	need(t, "Format", e, api.OK)
	for n := range uint64(9) {
		_, e := x.Put(bucket.Entry{Hash: n << 60, Loc: region.Loc{Region: 1, Size: 14}}, 1)
		need(t, "Put", e, api.OK)
		need(t, "Flush", s.Flush(), api.OK)
		s.Commit()
	}
	slots, e := x.Slots()
	need(t, "Slots", e, api.OK)
	return d, super.Head{Plan: small, Gen: s.Gen() - 1, Root: x.Root(), Depth: x.Depth(), Log: 1}, slots
}

// P18.1, P19.1: a head's index is opened in a store that makes the generation behind the
// head's, and of which the index's pages are taken.
func TestIndex(t *testing.T) {
	d, h, slots := behind(t)
	acts := d.Acts()
	s, x, e := Index(d, h)
	need(t, "Index", e, api.OK)
	got, e := x.Slots()
	need(t, "Slots", e, api.OK)
	pages, e := x.Pages()
	need(t, "Pages", e, api.OK)
	if fmt.Sprint(got) != fmt.Sprint(slots) || len(slots) < 4 || x.Depth() != h.Depth || x.Root() != h.Root {
		t.Errorf("%v, want %v", got, slots)
	}
	if s.Gen() != h.Gen+1 || s.Plan() != small || fmt.Sprint(s.Parts().Taken) != fmt.Sprint(pages) || d.Acts() != acts {
		t.Errorf("generation %d, parts %+v, pages %d", s.Gen(), s.Parts(), pages)
	}
}

// P18.1, P19.1: the store's error, and the index's; nothing is opened then.
func TestNoIndex(t *testing.T) {
	d, h, _ := behind(t)
	other := h
	other.Plan.Sectors++
	deep := h
	deep.Depth = 4
	late := h
	late.Gen = 1<<40 + 1
	root := h
	root.Root.Stamp++
	far := h
	far.Root.Page = 1 << 30
	down := d.Copy()
	down.Arm(1)
	down.Sync()
	for _, y := range []struct {
		name string
		d    *flash.Device
		h    super.Head
		e    api.Errno
	}{
		{"no device", nil, h, api.ErrArg},
		{"no plan", d, super.Head{}, api.ErrPlan},
		{"another plan", d, other, api.ErrPlan},
		{"too deep", d, deep, api.ErrArg},
		{"too late", d, late, api.ErrArg},
		{"another root", d, root, api.ErrForm},
		{"no such page", d, far, api.ErrForm},
		{"down", down, h, api.ErrDown},
	} {
		if s, x, e := Index(y.d, y.h); e != y.e || s != nil || x != nil {
			t.Errorf("%s: %v, %v, error %d, want %d", y.name, s, x, e, y.e)
		}
	}
}

// P18.1, P19.1: the last region is the greatest that the head, a change or a sector tells.
func TestRegions(t *testing.T) {
	x, _ := plan.Fit(small)
	changes := func(l ...int) []delta.Change {
		list := []delta.Change{{Drop: true, Hash: 5}}
		for _, q := range l {
			list = append(list, delta.Change{Hash: 6, Loc: region.Loc{Region: q, At: 90, Size: 90}})
		}
		return list
	}
	for _, y := range []struct {
		name  string
		head  int
		list  []delta.Change
		stamp int
		want  int
	}{
		{"nothing", 0, nil, 0, 0},
		{"what is taken away", 0, changes(), 0, 0},
		{"head", 7, nil, 0, 7},
		{"head is greatest", 7, changes(6, 5), 6, 7},
		{"change is", 5, changes(6, 7, 6), 6, 7},
		{"the last one", 5, changes(6, 7), 3, 7},
		{"sector is", 5, changes(6, 1), 7, 7},
		{"greatest", 1 << 40, changes(3), 3, 1 << 40},
	} {
		d := flash.New(140, 96)
		if y.stamp > 0 {
			place := y.stamp % 5 * 4
			need(t, y.name, leaf.Put(d, x.Region+place, leaf.Leaf{Kind: 3, Place: place, Stamp: y.stamp}), api.OK)
		}
		acts := d.Acts()
		l, e := Regions(d, super.Head{Plan: small, Region: y.head}, y.list)
		need(t, y.name, e, api.OK)
		if l.Last() != y.want || l.Where() != (y.want+1)*308 || d.Acts() != acts {
			t.Errorf("%s: last %d, where %d, want %d", y.name, l.Last(), l.Where(), y.want)
		}
	}
}

// P18.1, P19.1: the regions' error; nothing is opened then.
func TestNoRegions(t *testing.T) {
	d := flash.New(140, 96)
	h := super.Head{Plan: small}
	beyond := h
	beyond.Region = 1<<40 + 1
	down := d.Copy()
	down.Arm(1)
	down.Sync()
	for _, y := range []struct {
		name string
		d    *flash.Device
		h    super.Head
		e    api.Errno
	}{
		{"no device", nil, h, api.ErrArg},
		{"no plan", d, super.Head{}, api.ErrPlan},
		{"too great a region", d, beyond, api.ErrArg},
		{"down", down, h, api.ErrDown},
	} {
		if l, e := Regions(y.d, y.h, nil); e != y.e || l != nil {
			t.Errorf("%s: %v, error %d, want %d", y.name, l, e, y.e)
		}
	}
}
