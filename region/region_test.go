package region

import (
	"bytes"
	"fmt"
	"math"
	"math/rand/v2"
	"reflect"
	"slices"
	"testing"

	"sgraffito/api"
	"sgraffito/flash"
	"sgraffito/leaf"
	"sgraffito/plan"
	"sgraffito/record"
)

// small is the plan with which most is tried: regions of 2 sectors of 77 bytes,
// from sector 6 on.
var small = plan.Plan{Sectors: 60, Size: 96, Regions: 3, RegionSectors: 2, LogSectors: 4, Depth: 2, Memory: 8}

// plans are small and others: of regions of one sector, of many, of as many and
// as great ones as there may be.
var plans = []plan.Plan{
	small,
	{Sectors: 60, Size: 96, Regions: 4, RegionSectors: 1, LogSectors: 5, Depth: 0, Memory: 8},
	{Sectors: 200, Size: 131, Regions: 5, RegionSectors: 7, LogSectors: 9, Depth: 3, Memory: 20},
	{Sectors: 16384, Size: 512, Regions: 64, RegionSectors: 32, LogSectors: 256, Depth: 8, Memory: 256, Seed: 1},
}

// bad are some that have no layout, or not small's sectors and size.
var bad = []plan.Plan{
	{},
	{Sectors: 60, Size: 96, Regions: 2, RegionSectors: 2, LogSectors: 4, Depth: 2, Memory: 8},
	{Sectors: 60, Size: 96, Regions: 3, RegionSectors: 0, LogSectors: 4, Depth: 2, Memory: 8},
	{Sectors: 61, Size: 96, Regions: 3, RegionSectors: 2, LogSectors: 4, Depth: 2, Memory: 8},
	{Sectors: 60, Size: 97, Regions: 3, RegionSectors: 2, LogSectors: 4, Depth: 2, Memory: 8},
}

// text tells n bytes, none of them 0, that hang on a seed.
func text(seed, n int) []byte {
	b := make([]byte, n)
	for i := range b {
		b[i] = byte(1 + (seed*31+i*7)%255)
	}
	return b
}

// device tells a new one of a plan's sectors and size.
func device(p plan.Plan) *flash.Device { return flash.New(p.Sectors, p.Size) }

// unchanged tells whether a device is still as a copy of it is.
func unchanged(d, before *flash.Device) bool { return reflect.DeepEqual(d.Copy(), before.Copy()) }

// need fails the test at once, if an error is another one.
func need(t *testing.T, name string, got, want api.Errno) {
	t.Helper()
	if got != want {
		t.Fatalf("%s: error %d, want %d", name, got, want)
	}
}

// formatted tells a log of a new device.
func formatted(t *testing.T, p plan.Plan) (*flash.Device, *Log) {
	t.Helper()
	d := device(p)
	l, e := Format(d, p)
	need(t, "Format", e, api.OK)
	return d, l
}

// appended appends bytes.
func appended(t *testing.T, l *Log, b []byte) Loc {
	t.Helper()
	x, e := l.Append(b)
	need(t, "Append", e, api.OK)
	return x
}

// reads holds a log to what it reads.
func reads(t *testing.T, name string, l *Log, x Loc, want []byte) {
	t.Helper()
	if b, e := l.Read(x); e != api.OK || !bytes.Equal(b, want) {
		t.Fatalf("%s: %v reads %d, error %d, want %d", name, x, b, e, want)
	}
}

// fails holds a log to what it does not read, and why.
func fails(t *testing.T, name string, l *Log, x Loc, want api.Errno) {
	t.Helper()
	if b, e := l.Read(x); e != want || len(b) != 0 {
		t.Fatalf("%s: %v reads %d, error %d, want %d", name, x, b, e, want)
	}
}

// is holds a log to its numbers.
func is(t *testing.T, name string, l *Log, last, oldest, where int) {
	t.Helper()
	if l.Last() != last || l.Oldest() != oldest || l.Where() != where {
		t.Fatalf("%s: last %d, oldest %d, where %d, want %d, %d, %d", name, l.Last(), l.Oldest(), l.Where(), last, oldest, where)
	}
}

// put writes a leaf, as it may stand in a sector of regions.
func put(t *testing.T, d *flash.Device, p plan.Plan, place int, x leaf.Leaf) {
	t.Helper()
	layout, _ := plan.Fit(p)
	need(t, "Put", leaf.Put(d, layout.Region+place, x), api.OK)
}

// worded is a log as the document words it: of each region all its bytes, and
// which sectors were written.
type worded struct {
	p         plan.Plan
	layout    plan.Layout
	room      int
	last, pos int
	bytes     map[int][]byte
	written   map[int][]bool
	acts      int
}

func newWorded(p plan.Plan) *worded {
	layout, _ := plan.Fit(p)
	return &worded{p, layout, p.Size - 19, 0, layout.RegionRoom, map[int][]byte{}, map[int][]bool{}, 0}
}

func (w *worded) write(sector int) {
	w.written[w.last][sector] = true
	w.acts++
}

func (w *worded) flush() {
	for w.pos%w.room != 0 {
		w.pos++
		if w.pos%w.room == 0 {
			w.write(w.pos/w.room - 1)
		}
	}
}

func (w *worded) append(b []byte) Loc {
	if w.pos+len(b) > w.layout.RegionRoom {
		w.flush()
		w.last, w.pos = w.last+1, 0
		w.bytes[w.last] = make([]byte, w.layout.RegionRoom)
		w.written[w.last] = make([]bool, w.p.RegionSectors)
	}
	x := Loc{w.last, w.pos, len(b)}
	for _, c := range b {
		w.bytes[w.last][w.pos] = c
		w.pos++
		if w.pos%w.room == 0 {
			w.write(w.pos/w.room - 1)
		}
	}
	return x
}

func (w *worded) there(q int) bool { return q >= 1 && q <= w.last && q > w.last-w.p.Regions }

// reads tells what is read at a location, and whether something is.
func (w *worded) reads(x Loc) ([]byte, bool) {
	if !w.there(x.Region) || x.At < 0 || x.Size < 0 || x.At > w.layout.RegionRoom || x.Size > w.layout.RegionRoom || x.At+x.Size > w.layout.RegionRoom {
		return nil, false
	}
	for at := x.At; at < x.At+x.Size; at++ {
		underWay := x.Region == w.last && at/w.room == w.pos/w.room
		if !underWay && !w.written[x.Region][at/w.room] {
			return nil, false
		}
	}
	return w.bytes[x.Region][x.At : x.At+x.Size], true
}

// records tells a region's records.
func (w *worded) records(q int) []record.Record {
	n := slices.Index(w.written[q], false)
	if n < 0 {
		n = w.p.RegionSectors
	}
	return record.All(w.bytes[q][:n*w.room])
}

// sector tells what stands in one of all sectors of regions: what the newest
// region wrote that has that place.
func (w *worded) sector(place int) []byte {
	n := place % w.p.RegionSectors
	for q := w.last; q >= 1; q-- {
		if q%w.p.Regions == place/w.p.RegionSectors && w.written[q][n] {
			load := w.bytes[q][n*w.room : (n+1)*w.room]
			b, _ := leaf.Build(w.p.Size, leaf.Leaf{Kind: 3, Place: place, Stamp: q, Load: load})
			return b
		}
	}
	return make([]byte, w.p.Size)
}

// same holds a log and its device to the words: its numbers, each sector, what
// is read at some locations, the records of each region.
func (w *worded) same(t *testing.T, l *Log, d *flash.Device, locs []Loc) {
	t.Helper()
	is(t, "as worded", l, w.last, max(1, w.last-w.p.Regions+1), w.last*w.layout.RegionRoom+w.pos)
	if d.Acts() != w.acts {
		t.Fatalf("%d writes and syncs, want %d", d.Acts(), w.acts)
	}
	for at := range w.p.Sectors {
		b, _ := d.Read(at)
		want := make([]byte, w.p.Size)
		if at >= w.layout.Region && at < w.layout.Page {
			want = w.sector(at - w.layout.Region)
		}
		if !bytes.Equal(b, want) {
			t.Fatalf("sector %d: %d, want %d", at, b, want)
		}
	}
	for _, x := range locs {
		if want, ok := w.reads(x); ok {
			reads(t, "as worded", l, x, want)
		} else {
			fails(t, "as worded", l, x, api.ErrStale)
		}
	}
	for q := -1; q <= w.last+2; q++ {
		got, e := l.Records(q)
		switch {
		case !w.there(q) && (e != api.ErrNone || len(got) > 0):
			t.Fatalf("region %d: records %v, error %d", q, got, e)
		case w.there(q) && (e != api.OK || !alike(got, w.records(q))):
			t.Fatalf("region %d: records %v, error %d, want %v", q, got, e, w.records(q))
		}
	}
}

// alike tells whether records are the same ones.
func alike(x, y []record.Record) bool {
	return len(x) == len(y) && (len(x) == 0 || reflect.DeepEqual(x, y))
}

// P11.1: a log is made of a device and a plan that is just its; its last region
// is 0, which is full; nothing is written, and nothing that stands there counts.
func TestFormat(t *testing.T) {
	for _, p := range plans {
		layout, _ := plan.Fit(p)
		d := device(p)
		put(t, d, p, p.RegionSectors, leaf.Leaf{Kind: 3, Place: p.RegionSectors, Stamp: 1 + p.Regions, Load: text(1, 77)})
		before := d.Copy()
		l, e := Format(d, p)
		need(t, "Format", e, api.OK)
		is(t, "formatted", l, 0, 1, layout.RegionRoom)
		if !unchanged(d, before) {
			t.Error("the device is another one")
		}
		for _, q := range []int{-1, 0, 1} {
			fails(t, "formatted", l, Loc{Region: q}, api.ErrStale)
			if x, e := l.Records(q); e != api.ErrNone || x != nil {
				t.Errorf("records of %d: %v, error %d", q, x, e)
			}
		}
		if x := appended(t, l, []byte{1}); x != (Loc{1, 0, 1}) {
			t.Errorf("appended at %v", x)
		}
	}
	d := device(small)
	d.Arm(1)
	d.Sync()
	if l, e := Format(d, small); e != api.OK || l.Last() != 0 {
		t.Errorf("of a device that is down: error %d", e)
	}
}

// P11.1: ErrArg of no device ahead of ErrPlan, that ahead of ErrArg of a last
// region that is too great, and that ahead of the device's error.
func TestFormatAndOpenWrong(t *testing.T) {
	down := device(small)
	down.Arm(1)
	down.Sync()
	try := func(name string, d *flash.Device, p plan.Plan, last int, format, open api.Errno) {
		t.Helper()
		before := d.Copy()
		l, e := Format(d, p)
		if e != format || (l != nil) != (e == api.OK) {
			t.Errorf("Format, %s: error %d, want %d", name, e, format)
		}
		l, e = Open(d, p, last)
		if e != open || (l != nil) != (e == api.OK) {
			t.Errorf("Open, %s: error %d, want %d", name, e, open)
		}
		if !unchanged(d, before) {
			t.Errorf("%s: the device is another one", name)
		}
	}
	for _, last := range []int{math.MinInt, -1, 0, 1, 1 << 40} {
		try("right", device(small), small, last, api.OK, api.OK)
		try("down", down, small, last, api.OK, api.ErrDown)
		for _, p := range bad {
			try("no plan of its", device(small), p, last, api.ErrPlan, api.ErrPlan)
			try("no plan of its, down", down, p, last, api.ErrPlan, api.ErrPlan)
			try("no device, no plan", nil, p, last, api.ErrArg, api.ErrArg)
		}
		try("no device", nil, small, last, api.ErrArg, api.ErrArg)
	}
	for _, last := range []int{1<<40 + 1, 1 << 41, 1 << 62, math.MaxInt} {
		try("last", device(small), small, last, api.OK, api.ErrArg)
		try("last, down", down, small, last, api.OK, api.ErrArg)
		try("last, no plan of its", device(small), bad[3], last, api.ErrPlan, api.ErrPlan)
	}
}

// P11.1: a log that is opened has the last region that it is told, and it is
// full; below 0 is 0.
func TestOpenTold(t *testing.T) {
	for _, p := range plans {
		layout, _ := plan.Fit(p)
		for _, last := range []int{math.MinInt, -7, -1, 0, 1, 2, 3, 4, 64, 65, 1000, 1<<40 - 1, 1 << 40} {
			d := device(p)
			l, e := Open(d, p, last)
			need(t, "Open", e, api.OK)
			want := max(last, 0)
			is(t, "opened", l, want, max(want-p.Regions+1, 1), (want+1)*layout.RegionRoom)
			if d.Acts() != 0 {
				t.Error("something was written")
			}
			fails(t, "opened", l, Loc{want, 0, 1}, api.ErrStale)
			if last <= 1000 {
				if x := appended(t, l, text(1, 5)); x != (Loc{want + 1, 0, 5}) {
					t.Errorf("opened with %d: appended at %v", last, x)
				}
			}
		}
	}
}

// P11.1: a log that is opened has as its last region the greatest stamp in a
// sector of regions, of a leaf of the kind 3 and that place, where the region's
// place is right, up to 2^40.
func TestOpenFound(t *testing.T) {
	for _, p := range plans[:3] {
		layout, _ := plan.Fit(p)
		most := 1 << 40
		for place := range p.Regions * p.RegionSectors {
			its := place / p.RegionSectors
			greatest := most - (most%p.Regions-its+p.Regions)%p.Regions
			for _, x := range []struct {
				leaf leaf.Leaf
				told int
				want int
			}{
				{leaf.Leaf{Kind: 3, Place: place, Stamp: its}, 0, its},
				{leaf.Leaf{Kind: 3, Place: place, Stamp: its + 7*p.Regions}, 0, its + 7*p.Regions},
				{leaf.Leaf{Kind: 3, Place: place, Stamp: its + 7*p.Regions}, its + 7*p.Regions - 1, its + 7*p.Regions},
				{leaf.Leaf{Kind: 3, Place: place, Stamp: its + 7*p.Regions}, its + 7*p.Regions + 1, its + 7*p.Regions + 1},
				{leaf.Leaf{Kind: 3, Place: place, Stamp: its + 7*p.Regions, Load: text(3, p.Size-19)}, 2, its + 7*p.Regions},
				{leaf.Leaf{Kind: 3, Place: place, Stamp: greatest}, 0, greatest},
				{leaf.Leaf{Kind: 3, Place: place, Stamp: greatest + p.Regions}, 0, 0},
				{leaf.Leaf{Kind: 3, Place: place, Stamp: math.MaxInt - math.MaxInt%p.Regions - p.Regions + its}, 3, 3},
				{leaf.Leaf{Kind: 3, Place: place, Stamp: its + 7*p.Regions + 1}, 0, 0},
				{leaf.Leaf{Kind: 3, Place: place, Stamp: its + 7*p.Regions - 1}, 0, 0},
				{leaf.Leaf{Kind: 3, Place: place + 1, Stamp: its + 7*p.Regions}, 0, 0},
				{leaf.Leaf{Kind: 3, Place: layout.Region + place, Stamp: its + 7*p.Regions}, 0, 0},
				{leaf.Leaf{Kind: 4, Place: place, Stamp: its + 7*p.Regions}, 0, 0},
				{leaf.Leaf{Kind: 2, Place: place, Stamp: its + 7*p.Regions}, 5, 5},
			} {
				d := device(p)
				put(t, d, p, place, x.leaf)
				for _, loose := range []bool{true, false} {
					if !loose {
						need(t, "Sync", d.Sync(), api.OK)
					}
					before := d.Copy()
					l, e := Open(d, p, x.told)
					need(t, "Open", e, api.OK)
					is(t, fmt.Sprintf("%+v", x), l, x.want, max(1, x.want-p.Regions+1), (x.want+1)*layout.RegionRoom)
					if !unchanged(d, before) {
						t.Fatal("the device is another one")
					}
				}
				d.Rot(layout.Region+place, 20, 1)
				l, e := Open(d, p, x.told)
				need(t, "Open", e, api.OK)
				if l.Last() != x.told {
					t.Fatalf("%+v, rotten: last %d", x, l.Last())
				}
			}
		}
	}
}

// P11.1: sectors outside of the regions do not count; of several the greatest
// does, wherever it stands.
func TestOpenGreatest(t *testing.T) {
	for _, p := range plans[:3] {
		layout, _ := plan.Fit(p)
		places := p.Regions * p.RegionSectors
		d := device(p)
		for at := range p.Sectors {
			if at < layout.Region || at >= layout.Page {
				place := (at - layout.Region + 10*places) % places
				leaf.Put(d, at, leaf.Leaf{Kind: 3, Place: place, Stamp: place/p.RegionSectors + 900*p.Regions})
				leaf.Put(d, at, leaf.Leaf{Kind: 3, Place: max(at-layout.Region, 0), Stamp: 1000 * p.Regions})
			}
		}
		l, e := Open(d, p, 0)
		need(t, "Open", e, api.OK)
		if l.Last() != 0 {
			t.Fatalf("last %d", l.Last())
		}
		for place := range places {
			put(t, d, p, place, leaf.Leaf{Kind: 3, Place: place, Stamp: place/p.RegionSectors + 2*p.Regions})
		}
		for place := range places {
			greatest := d.Copy()
			want := place/p.RegionSectors + 9*p.Regions
			put(t, greatest, p, place, leaf.Leaf{Kind: 3, Place: place, Stamp: want})
			l, e := Open(greatest, p, 4)
			need(t, "Open", e, api.OK)
			if l.Last() != want {
				t.Fatalf("place %d: last %d, want %d", place, l.Last(), want)
			}
		}
	}
}

// P11.1: of nil all numbers are 0, and all else tells ErrArg.
func TestNil(t *testing.T) {
	var l *Log
	is(t, "nil", l, 0, 0, 0)
	if x, e := l.Append([]byte{1}); e != api.ErrArg || x != (Loc{}) {
		t.Errorf("Append: %v, error %d", x, e)
	}
	if x, e := l.Append(nil); e != api.ErrArg || x != (Loc{}) {
		t.Errorf("Append: %v, error %d", x, e)
	}
	need(t, "Flush", l.Flush(), api.ErrArg)
	fails(t, "nil", l, Loc{1, 0, 1}, api.ErrArg)
	fails(t, "nil", l, Loc{-1, -1, -1}, api.ErrArg)
	if x, e := l.Records(1); e != api.ErrArg || x != nil {
		t.Errorf("Records: %v, error %d", x, e)
	}
}

// P11.1, P11.2: the document's examples.
func TestExamples(t *testing.T) {
	_, l := formatted(t, small)
	a, b := appended(t, l, text(1, 100)), appended(t, l, text(2, 60))
	if a != (Loc{1, 0, 100}) || b != (Loc{2, 0, 60}) {
		t.Fatalf("%v, %v", a, b)
	}
	appended(t, l, text(3, 154))
	reads(t, "there", l, a, text(1, 100))
	appended(t, l, text(4, 1))
	fails(t, "written over", l, a, api.ErrStale)
	if l.Last() != 4 || l.Oldest() != 2 {
		t.Fatalf("last %d, oldest %d", l.Last(), l.Oldest())
	}
}

// P11.2: a sector is written as soon as it is full, and not ahead of that; a
// flush fills it with 0, and writes nothing where nothing stands.
func TestWhenItIsWritten(t *testing.T) {
	d, l := formatted(t, small)
	for i, x := range []struct {
		size, acts, region, at, where int
	}{
		{76, 0, 1, 0, 154 + 76},
		{1, 1, 1, 76, 154 + 77},
		{0, 1, 0, 0, 154 + 77},
		{1, 1, 1, 77, 154 + 78},
		{0, 2, 0, 0, 154 + 154},
		{0, 2, 0, 0, 154 + 154},
		{100, 3, 2, 0, 2*154 + 100},
		{54, 4, 2, 100, 2*154 + 154},
		{154, 6, 3, 0, 3*154 + 154},
		{77, 7, 4, 0, 4*154 + 77},
		{78, 8, 5, 0, 5*154 + 78},
		{0, 9, 0, 0, 5*154 + 154},
		{10, 9, 6, 0, 6*154 + 10},
		{145, 11, 7, 0, 7*154 + 145},
		{10, 12, 8, 0, 8*154 + 10},
		{67, 13, 8, 10, 8*154 + 77},
		{78, 14, 9, 0, 9*154 + 78},
	} {
		if x.size == 0 {
			need(t, "Flush", l.Flush(), api.OK)
		} else if loc := appended(t, l, text(i, x.size)); loc != (Loc{x.region, x.at, x.size}) {
			t.Fatalf("step %d: at %v", i, loc)
		}
		if d.Acts() != x.acts || l.Where() != x.where {
			t.Fatalf("step %d: %d writes, where %d, want %d, %d", i, d.Acts(), l.Where(), x.acts, x.where)
		}
	}
}

// P11.2: what may not be appended: ErrArg of nothing, ErrLong of more than a
// region; and nothing is changed by it.
func TestAppendWrong(t *testing.T) {
	for _, p := range plans {
		layout, _ := plan.Fit(p)
		d, l := formatted(t, p)
		for i := range 4 {
			before, where := d.Copy(), l.Where()
			for _, x := range []struct {
				b    []byte
				want api.Errno
			}{
				{nil, api.ErrArg},
				{[]byte{}, api.ErrArg},
				{text(1, 9)[:0], api.ErrArg},
				{make([]byte, layout.RegionRoom+1), api.ErrLong},
				{make([]byte, 2*layout.RegionRoom), api.ErrLong},
				{make([]byte, 1<<20), api.ErrLong},
			} {
				if loc, e := l.Append(x.b); e != x.want || loc != (Loc{}) {
					t.Fatalf("%d bytes: %v, error %d, want %d", len(x.b), loc, e, x.want)
				}
			}
			if l.Where() != where || !unchanged(d, before) {
				t.Fatal("something was appended")
			}
			x := appended(t, l, text(i, 50))
			reads(t, "still", l, x, text(i, 50))
		}
		x := appended(t, l, text(9, layout.RegionRoom))
		if x.At != 0 || x.Size != layout.RegionRoom {
			t.Fatalf("%v", x)
		}
		reads(t, "a whole region", l, x, text(9, layout.RegionRoom))
	}
}

// P11.2: the device's error, where something is to be written; where nothing is,
// none.
func TestDown(t *testing.T) {
	_, l := formatted(t, small)
	for _, x := range []struct {
		name string
		do   func(l *Log) api.Errno
		want api.Errno
	}{
		{"goes in", func(l *Log) api.Errno { _, e := l.Append(text(1, 16)); return e }, api.OK},
		{"fills", func(l *Log) api.Errno { _, e := l.Append(text(1, 17)); return e }, api.ErrDown},
		{"more than fills", func(l *Log) api.Errno { _, e := l.Append(text(1, 90)); return e }, api.ErrDown},
		{"next region", func(l *Log) api.Errno { _, e := l.Append(text(1, 95)); return e }, api.ErrDown},
		{"next region, goes in", func(l *Log) api.Errno { _, e := l.Append(text(1, 18)); return e }, api.ErrDown},
		{"flush", (*Log).Flush, api.ErrDown},
		{"written", func(l *Log) api.Errno { _, e := l.Read(Loc{2, 3, 5}); return e }, api.ErrDown},
		{"written in part", func(l *Log) api.Errno { _, e := l.Read(Loc{3, 76, 2}); return e }, api.ErrDown},
		{"under way", func(l *Log) api.Errno { _, e := l.Read(Loc{3, 77, 60}); return e }, api.OK},
		{"nothing", func(l *Log) api.Errno { _, e := l.Read(Loc{2, 50, 0}); return e }, api.OK},
		{"not there", func(l *Log) api.Errno { _, e := l.Read(Loc{4, 0, 1}); return e }, api.ErrStale},
		{"too long", func(l *Log) api.Errno { _, e := l.Read(Loc{2, 100, 55}); return e }, api.ErrStale},
		{"records", func(l *Log) api.Errno { _, e := l.Records(2); return e }, api.ErrDown},
		{"records of the last one", func(l *Log) api.Errno { _, e := l.Records(3); return e }, api.ErrDown},
		{"records of none", func(l *Log) api.Errno { _, e := l.Records(4); return e }, api.ErrNone},
		{"nothing to append", func(l *Log) api.Errno { _, e := l.Append(nil); return e }, api.ErrArg},
		{"too long to append", func(l *Log) api.Errno { _, e := l.Append(text(1, 155)); return e }, api.ErrLong},
	} {
		d, l := formatted(t, small)
		for i := range 2 {
			appended(t, l, text(i, 154))
		}
		appended(t, l, text(3, 137))
		need(t, "Sync", d.Sync(), api.OK)
		d.Arm(1)
		need(t, "Sync", d.Sync(), api.ErrDown)
		need(t, x.name, x.do(l), x.want)
	}
	need(t, "nothing to flush", l.Flush(), api.OK)
}

// P11.2: a write at which the device goes down tells it.
func TestGoesDown(t *testing.T) {
	for n := 1; n <= 3; n++ {
		d, l := formatted(t, small)
		appended(t, l, text(1, 10))
		d.Arm(n)
		x, e := l.Append(text(2, 154))
		if n <= 3 && (e != api.ErrDown || x != (Loc{})) {
			t.Errorf("at write %d: %v, error %d", n, x, e)
		}
		if d.Acts() != n {
			t.Errorf("at write %d: %d writes", n, d.Acts())
		}
	}
	d, l := formatted(t, small)
	appended(t, l, text(1, 10))
	d.Arm(1)
	need(t, "Flush", l.Flush(), api.ErrDown)
}

// P11.2: what is under way is read, and 0 behind it; so is what stands in more
// than one sector, the last of which is under way.
func TestReadUnderWay(t *testing.T) {
	d, l := formatted(t, small)
	x := appended(t, l, text(1, 100))
	for from := range 100 {
		for size := range 100 - from + 1 {
			reads(t, "under way", l, Loc{1, from, size}, text(1, 100)[from:from+size])
		}
	}
	reads(t, "behind it", l, Loc{1, 90, 64}, append(text(1, 100)[90:], make([]byte, 54)...))
	y := appended(t, l, text(2, 30))
	reads(t, "still", l, x, text(1, 100))
	reads(t, "more", l, y, text(2, 30))
	reads(t, "both", l, Loc{1, 99, 2}, []byte{text(1, 100)[99], text(2, 30)[0]})
	need(t, "Flush", l.Flush(), api.OK)
	reads(t, "flushed", l, Loc{1, 0, 154}, slices.Concat(text(1, 100), text(2, 30), make([]byte, 24)))
	if d.Loose() != 2 {
		t.Errorf("%d loose writes", d.Loose())
	}
}

// P11.2: what stands elsewhere under way is never asked of the device: an elder
// sector with that stamp does not count.
func TestElderUnderWay(t *testing.T) {
	p := small
	layout, _ := plan.Fit(p)
	d := device(p)
	row, _ := record.Pack(record.Record{Key: []byte("k"), Value: []byte("v")})
	for place := range 6 {
		for q := 1; q <= 3; q++ {
			if q%3 == place/2 {
				put(t, d, p, place, leaf.Leaf{Kind: 3, Place: place, Stamp: q, Load: row})
			}
		}
	}
	l, e := Format(d, p)
	need(t, "Format", e, api.OK)
	appended(t, l, text(1, 3))
	reads(t, "under way", l, Loc{1, 0, 10}, append(text(1, 3), make([]byte, 7)...))
	if x, e := l.Records(1); e != api.OK || len(x) != 0 {
		t.Errorf("records: %v, error %d", x, e)
	}
	need(t, "Flush", l.Flush(), api.OK)
	if x, e := l.Records(1); e != api.OK || len(x) != 0 {
		t.Errorf("records: %v, error %d", x, e)
	}
	appended(t, l, row)
	need(t, "Flush", l.Flush(), api.OK)
	if b, _ := d.Read(layout.Region + 3); b[15] != 165 {
		t.Errorf("sector 3: %d", b)
	}
}

// P11.2: ErrStale of a location whose region is not there, or that does not lie
// in it, at all numbers.
func TestReadWrong(t *testing.T) {
	for _, p := range plans[:3] {
		layout, _ := plan.Fit(p)
		room := layout.RegionRoom
		_, l := formatted(t, p)
		for i := range p.Regions + 5 {
			appended(t, l, text(i, room))
		}
		for q := 6; q <= p.Regions+5; q++ {
			reads(t, "there", l, Loc{q, 0, room}, text(q-1, room))
			for _, x := range []Loc{{q, 0, 0}, {q, room, 0}, {q, room / 2, 0}} {
				reads(t, "nothing", l, x, nil)
			}
			for _, at := range []int{math.MinInt, -room, -1, 0, 1, room, room + 1, 2 * room, 1 << 40, math.MaxInt - 1, math.MaxInt} {
				for _, size := range []int{math.MinInt, math.MinInt + 1, -room, -1, 0, 1, room - 1, room, room + 1, 1 << 40, math.MaxInt - 1, math.MaxInt} {
					if at >= 0 && at <= room && size >= 0 && size <= room-at {
						reads(t, "in it", l, Loc{q, at, size}, text(q-1, room)[at:at+size])
					} else {
						fails(t, "not in it", l, Loc{q, at, size}, api.ErrStale)
					}
				}
			}
		}
		for _, q := range []int{math.MinInt, -1, 0, 1, 4, 5, p.Regions + 6, p.Regions + 7, 1 << 40, math.MaxInt} {
			for _, size := range []int{-1, 0, 1, room, room + 1} {
				fails(t, "not there", l, Loc{q, 0, size}, api.ErrStale)
			}
		}
	}
}

// P11.2: ErrStale of each byte that stands in a sector that is not of that
// region, whatever it is instead; the other sectors are read.
func TestReadOtherSectors(t *testing.T) {
	p := plans[2]
	layout, _ := plan.Fit(p)
	room, q := 131-19, 7
	full := text(q, layout.RegionRoom)
	for n := range p.RegionSectors {
		place := q%p.Regions*p.RegionSectors + n
		load := full[n*room : (n+1)*room]
		for name, do := range map[string]func(d *flash.Device){
			"rot":  func(d *flash.Device) { d.Rot(layout.Region+place, 40, 4) },
			"none": func(d *flash.Device) { d.Write(layout.Region+place, make([]byte, 131)) },
			"elder": func(d *flash.Device) {
				put(t, d, p, place, leaf.Leaf{Kind: 3, Place: place, Stamp: q - p.Regions, Load: load})
			},
			"newer": func(d *flash.Device) {
				put(t, d, p, place, leaf.Leaf{Kind: 3, Place: place, Stamp: q + p.Regions, Load: load})
			},
			"kind":  func(d *flash.Device) { put(t, d, p, place, leaf.Leaf{Kind: 4, Place: place, Stamp: q, Load: load}) },
			"place": func(d *flash.Device) { put(t, d, p, place, leaf.Leaf{Kind: 3, Place: place + 1, Stamp: q, Load: load}) },
		} {
			d := device(p)
			l, e := Open(d, p, q-1)
			need(t, "Open", e, api.OK)
			appended(t, l, full)
			need(t, "Sync", d.Sync(), api.OK)
			do(d)
			for _, x := range []Loc{{q, 0, layout.RegionRoom}, {q, n * room, 1}, {q, n*room + room - 1, 1}, {q, max(n*room-1, 0), 2}, {q, n * room, room}} {
				fails(t, name, l, x, api.ErrStale)
			}
			reads(t, name, l, Loc{q, 0, n * room}, full[:n*room])
			reads(t, name, l, Loc{q, (n + 1) * room, layout.RegionRoom - (n+1)*room}, full[(n+1)*room:])
			reads(t, name, l, Loc{q, n*room + 5, 0}, nil)
		}
	}
}

// P11.2: where a load is shorter than a sector's, its bytes are 0 behind it, as
// the sector's are.
func TestShortLoads(t *testing.T) {
	d := device(small)
	one, _ := record.Pack(record.Record{Key: []byte("a"), Value: []byte("1")})
	two, _ := record.Pack(record.Record{Key: []byte("b"), Value: []byte("2")})
	put(t, d, small, 2, leaf.Leaf{Kind: 3, Place: 2, Stamp: 4, Load: one})
	put(t, d, small, 3, leaf.Leaf{Kind: 3, Place: 3, Stamp: 4, Load: two})
	l, e := Open(d, small, 0)
	need(t, "Open", e, api.OK)
	reads(t, "both", l, Loc{4, 0, 154}, slices.Concat(one, make([]byte, 77-15), two, make([]byte, 77-15)))
	reads(t, "two", l, Loc{4, 77, 15}, two)
	x, e := l.Records(4)
	if e != api.OK || len(x) != 2 || string(x[0].Key) != "a" || string(x[1].Key) != "b" {
		t.Errorf("records: %v, error %d", x, e)
	}
}

// P11.2: a region's records are those up to the first sector that is not of it,
// or under way; a record that goes on in such a one is none.
func TestRecords(t *testing.T) {
	p := plans[2]
	layout, _ := plan.Fit(p)
	var all []record.Record
	var rows [][]byte
	for i := range 12 {
		x := record.Record{Key: text(i, 1+i), Value: text(i, 7*i), End: i}
		row, _ := record.Pack(x)
		all, rows = append(all, x), append(rows, row)
	}
	d, l := formatted(t, p)
	var ends []int
	for _, row := range rows {
		x := appended(t, l, row)
		if x.Region != 1 {
			t.Fatalf("at %v", x)
		}
		ends = append(ends, x.At+x.Size)
		written := l.Where() % layout.RegionRoom / (131 - 19) * (131 - 19)
		want := 0
		for want < len(ends) && ends[want] <= written {
			want++
		}
		got, e := l.Records(1)
		if e != api.OK || len(got) != want {
			t.Fatalf("behind %d records, %d bytes written: %v, error %d, want %d", len(ends), written, got, e, want)
		}
	}
	need(t, "Flush", l.Flush(), api.OK)
	got, e := l.Records(1)
	if e != api.OK || len(got) != len(all) {
		t.Fatalf("records: %v, error %d", got, e)
	}
	for i, x := range got {
		if !bytes.Equal(x.Key, all[i].Key) || !bytes.Equal(x.Value, all[i].Value) || x.End != all[i].End {
			t.Errorf("record %d is %v, want %v", i, x, all[i])
		}
	}
	for n := range p.RegionSectors {
		torn := d.Copy()
		torn.Sync()
		torn.Rot(layout.Region+p.RegionSectors+n, 30, 1)
		o, e := Open(torn, p, 3)
		need(t, "Open", e, api.OK)
		want := 0
		for want < len(ends) && ends[want] <= n*(131-19) {
			want++
		}
		if n*(131-19) > ends[len(ends)-1] {
			want = len(ends)
		}
		if got, e := o.Records(1); e != api.OK || len(got) != want {
			t.Errorf("sector %d rotten: %d records, error %d, want %d", n, len(got), e, want)
		}
	}
}

// P11.2: no records are told of what is behind a sector that is not of the
// region, even if they begin where the next one does.
func TestRecordsBehindOthers(t *testing.T) {
	row, _ := record.Pack(record.Record{Key: []byte("k"), Value: []byte("v")})
	for n := range 3 {
		for name, do := range map[string]func(d *flash.Device, place int){
			"rot":  func(d *flash.Device, place int) { d.Rot(6+place, 0, 1) },
			"none": func(d *flash.Device, place int) { d.Write(6+place, make([]byte, 96)) },
			"stamp": func(d *flash.Device, place int) {
				put(t, d, small, place, leaf.Leaf{Kind: 3, Place: place, Stamp: 4, Load: row})
			},
			"place": func(d *flash.Device, place int) {
				put(t, d, small, place, leaf.Leaf{Kind: 3, Place: 0, Stamp: 1, Load: row})
			},
		} {
			d, l := formatted(t, small)
			for range 2 {
				appended(t, l, row)
				need(t, "Flush", l.Flush(), api.OK)
			}
			need(t, "Sync", d.Sync(), api.OK)
			do(d, 2+n)
			if got, e := l.Records(1); e != api.OK || len(got) != n {
				t.Errorf("%s in sector %d: %v, error %d", name, n, got, e)
			}
		}
	}
}

// P11.2: ErrNone of a region that is not there, at all numbers; of one that is
// there, but has no sector, no records.
func TestRecordsWrong(t *testing.T) {
	d, l := formatted(t, small)
	for i := range 5 {
		appended(t, l, text(i, 154))
	}
	for _, q := range []int{math.MinInt, -3, -1, 0, 1, 2, 6, 7, 9, 1 << 40, math.MaxInt} {
		if x, e := l.Records(q); e != api.ErrNone || x != nil {
			t.Errorf("region %d: %v, error %d", q, x, e)
		}
	}
	for _, q := range []int{3, 4, 5} {
		if x, e := l.Records(q); e != api.OK || len(x) != 0 {
			t.Errorf("region %d: %v, error %d", q, x, e)
		}
	}
	o, e := Open(d, small, 100)
	need(t, "Open", e, api.OK)
	for _, q := range []int{98, 99, 100} {
		if x, e := o.Records(q); e != api.OK || len(x) != 0 {
			t.Errorf("region %d: %v, error %d", q, x, e)
		}
	}
}

// P11.2: what is handed in is neither kept nor changed, nor what is behind its
// end; what is handed out is no one else's.
func TestMemory(t *testing.T) {
	_, l := formatted(t, small)
	row, _ := record.Pack(record.Record{Key: []byte("key"), Value: []byte("value")})
	long := append(slices.Clone(row), text(1, 150)...)
	before := slices.Clone(long)
	x := appended(t, l, long[:len(row)])
	if !bytes.Equal(long, before) {
		t.Fatal("what is handed in was changed")
	}
	clear(long)
	for range 2 {
		for range 2 {
			b, e := l.Read(x)
			if e != api.OK || !bytes.Equal(b, row) {
				t.Fatalf("%d, error %d", b, e)
			}
			b = b[:cap(b)]
			for i := range b {
				b[i] = 99
			}
		}
		need(t, "Flush", l.Flush(), api.OK)
	}
	for range 2 {
		list, e := l.Records(1)
		if e != api.OK || len(list) != 1 || string(list[0].Key) != "key" || string(list[0].Value) != "value" {
			t.Fatalf("%v, error %d", list, e)
		}
		clear(list[0].Key[:cap(list[0].Key)])
		clear(list[0].Value[:cap(list[0].Value)])
	}
	y := appended(t, l, text(2, 3))
	reads(t, "row", l, x, row)
	reads(t, "behind it", l, y, text(2, 3))
}

// P11.2: asking changes nothing.
func TestAsking(t *testing.T) {
	d, l := formatted(t, small)
	x := appended(t, l, text(1, 100))
	before, was := d.Copy(), *l
	was.row = slices.Clone(l.row)
	l.Read(x)
	l.Read(Loc{1, 90, 60})
	l.Read(Loc{9, 0, 1})
	l.Records(1)
	l.Records(2)
	l.Last()
	l.Oldest()
	l.Where()
	if !unchanged(d, before) || !reflect.DeepEqual(*l, was) {
		t.Error("something was changed")
	}
}

// P11.3: whatever is done without a crash, each log is as the document words it.
func TestAsWorded(t *testing.T) {
	for i, p := range plans[:3] {
		for seed := range uint64(12) {
			r := rand.New(rand.NewPCG(seed, uint64(i)))
			d, l := formatted(t, p)
			w := newWorded(p)
			var locs []Loc
			for step := range 60 {
				switch r.IntN(8) {
				case 0, 1:
					need(t, "Flush", l.Flush(), api.OK)
					w.flush()
				case 2:
					b := make([]byte, 1+r.IntN(w.layout.RegionRoom))
					for i := range b {
						b[i] = byte(r.Uint32())
					}
					if x, want := appended(t, l, b), w.append(b); x != want {
						t.Fatalf("at %v, want %v", x, want)
					}
				default:
					row, _ := record.Pack(record.Record{Key: text(step, 1+r.IntN(20)), Value: text(step, r.IntN(30)), End: step})
					x, want := appended(t, l, row), w.append(row)
					if x != want {
						t.Fatalf("at %v, want %v", x, want)
					}
					locs = append(locs, x)
				}
				odd := Loc{w.last - r.IntN(p.Regions+1), r.IntN(w.layout.RegionRoom), r.IntN(w.layout.RegionRoom)}
				w.same(t, l, d, append(slices.Clone(locs), odd))
			}
		}
	}
}

// P11.3: of a plan with the greatest numbers, too, once round and on.
func TestGreatestPlan(t *testing.T) {
	p := plans[3]
	layout, _ := plan.Fit(p)
	d, l := formatted(t, p)
	var locs []Loc
	for i := range 100 {
		locs = append(locs, appended(t, l, text(i, layout.RegionRoom-i)))
	}
	need(t, "Flush", l.Flush(), api.OK)
	need(t, "Sync", d.Sync(), api.OK)
	o, e := Open(d, p, 0)
	need(t, "Open", e, api.OK)
	for _, l := range []*Log{l, o} {
		if l.Last() != 100 || l.Oldest() != 37 {
			t.Fatalf("last %d, oldest %d", l.Last(), l.Oldest())
		}
		for i, x := range locs {
			if x != (Loc{i + 1, 0, layout.RegionRoom - i}) {
				t.Fatalf("%d: %v", i, x)
			}
			if i+1 < 37 {
				fails(t, "written over", l, x, api.ErrStale)
			} else {
				reads(t, "there", l, x, text(i, x.Size))
			}
		}
	}
}

// thing is what was appended, and where.
type thing struct {
	x Loc
	b []byte
}

// run appends and flushes till the device goes down, or enough was done; it
// tells all that was appended, and how much of that was flushed ahead of a sync.
func run(r *rand.Rand, d *flash.Device, l *Log, room int) (all []thing, kept int) {
	flushed := 0
	for step := range 40 {
		switch r.IntN(6) {
		case 0:
			if l.Flush() != api.OK {
				return all, kept
			}
			flushed = len(all)
		case 1:
			if d.Sync() != api.OK {
				return all, kept
			}
			kept = flushed
		default:
			b := text(r.IntN(1000)*40+step, 1+r.IntN(min(room, 120)))
			x, e := l.Append(b)
			if e != api.OK {
				return all, kept
			}
			all = append(all, thing{x, b})
		}
	}
	return all, kept
}

// fates tells one for each loose write: nothing, all, or some bytes of it.
func fates(r *rand.Rand, d *flash.Device) []int {
	list := make([]int, d.Loose())
	for i := range list {
		switch r.IntN(3) {
		case 0:
			list[i] = d.Size()
		case 1:
			list[i] = r.IntN(d.Size() + 1)
		}
	}
	return list
}

// onceEach holds a device to no sector of a region being ever written twice.
func onceEach(t *testing.T, d *flash.Device, p plan.Plan) {
	t.Helper()
	layout, _ := plan.Fit(p)
	for at := range d.Sectors() {
		var stamps []int
		for _, b := range d.Past(at) {
			if x, e := leaf.Read(b); e == api.OK {
				stamps = append(stamps, x.Stamp)
			}
		}
		n := len(stamps)
		slices.Sort(stamps)
		if len(slices.Compact(stamps)) != n || n > 0 && (at < layout.Region || at >= layout.Page) {
			t.Fatalf("sector %d: stamps %v", at, stamps)
		}
	}
}

// P11.3: wherever the device goes down, and whatever a crash lets be done: what
// was flushed ahead of a sync is read, unless its region, or the one that takes
// its place, is too far on; all else is read as it was, or is stale.
func TestCrashes(t *testing.T) {
	counts := map[string]int{}
	for i, p := range plans[:3] {
		layout, _ := plan.Fit(p)
		for seed := range uint64(600) {
			r := rand.New(rand.NewPCG(seed, uint64(i)+9))
			d, l := formatted(t, p)
			d.Arm(1 + r.IntN(60))
			all, kept := run(r, d, l, layout.RegionRoom)
			begun := l.Last()
			onceEach(t, d, p)
			d.Crash(fates(r, d))
			if len(leaf.Foul(d)) > 0 {
				counts["foul"]++
				continue
			}
			o, e := Open(d, p, r.IntN(begun+1))
			need(t, "Open", e, api.OK)
			if o.Last() > begun {
				t.Fatalf("last %d, but %d was begun last", o.Last(), begun)
			}
			for n, y := range all {
				b, e := o.Read(y.x)
				switch {
				case e == api.OK && !bytes.Equal(b, y.b):
					t.Fatalf("%v reads %d, want %d", y.x, b, y.b)
				case e == api.OK:
					counts["read"]++
				case e != api.ErrStale:
					t.Fatalf("%v: error %d", y.x, e)
				case n < kept && y.x.Region >= o.Oldest() && y.x.Region+p.Regions > begun:
					t.Fatalf("%v was flushed, and is stale", y.x)
				default:
					counts["stale"]++
				}
			}
			goesOn(t, o, p, all)
		}
	}
	if counts["read"] < 1000 || counts["stale"] < 1000 || counts["foul"] > 0 {
		t.Errorf("too little was tried: %v", counts)
	}
}

// goesOn holds a log that was opened to going on in a region of its own, and to
// reading what is appended then, and what it still has as it was.
func goesOn(t *testing.T, o *Log, p plan.Plan, all []thing) {
	t.Helper()
	last := o.Last()
	layout, _ := plan.Fit(p)
	for i := range p.Regions + 1 {
		b := text(7*i, layout.RegionRoom)
		x := appended(t, o, b)
		if x != (Loc{last + 1 + i, 0, layout.RegionRoom}) {
			t.Fatalf("behind %d: %v", last+i, x)
		}
		reads(t, "goes on", o, x, b)
		for _, y := range all {
			if got, e := o.Read(y.x); y.x.Region <= last && e == api.OK && !bytes.Equal(got, y.b) {
				t.Fatalf("%v reads %d, want %d", y.x, got, y.b)
			}
		}
	}
}

// P11.3: what was flushed and synced is read behind many crashes, as long as its
// region is there; what was not flushed is stale, and what was lost is not read
// in its place.
func TestManyCrashes(t *testing.T) {
	d, l := formatted(t, small)
	var kept []thing
	for i := range 9 {
		b := text(i, 60)
		x := appended(t, l, b)
		need(t, "Flush", l.Flush(), api.OK)
		need(t, "Sync", d.Sync(), api.OK)
		kept = append(kept, thing{x, b})
		lost := appended(t, l, text(i+100, 50))
		d.Crash(nil)
		o, e := Open(d, small, 0)
		need(t, "Open", e, api.OK)
		is(t, "opened", o, i+1, max(1, i-1), (i+2)*154)
		for n, y := range kept {
			if n > i-3 {
				reads(t, "kept", o, y.x, y.b)
			} else {
				fails(t, "kept, but too old", o, y.x, api.ErrStale)
			}
		}
		fails(t, "lost", o, lost, api.ErrStale)
		l = o
	}
}
