package store

import (
	"bytes"
	"fmt"
	"maps"
	"math"
	"math/rand/v2"
	"reflect"
	"slices"
	"testing"

	"sgraffito/api"
	"sgraffito/flash"
	"sgraffito/leaf"
	"sgraffito/plan"
	"sgraffito/super"
)

// small is the plan with which most is tried: 48 pages from sector 12 on, 8 of
// them in memory. tight has the fewest pages that may be, 13 from sector 9 on;
// roomy has as many, but room for all of them in memory.
var (
	small = plan.Plan{Sectors: 60, Size: 96, Regions: 3, RegionSectors: 2, LogSectors: 4, Depth: 2, Memory: 8}
	tight = plan.Plan{Sectors: 22, Size: 96, Regions: 3, RegionSectors: 1, LogSectors: 4, Depth: 0, Memory: 8}
	roomy = plan.Plan{Sectors: 22, Size: 96, Regions: 3, RegionSectors: 1, LogSectors: 4, Depth: 0, Memory: 256, Seed: 5}
)

// plans are these and others: of another size, and with the greatest numbers.
var plans = []plan.Plan{
	small,
	tight,
	roomy,
	{Sectors: 200, Size: 131, Regions: 5, RegionSectors: 7, LogSectors: 9, Depth: 3, Memory: 20},
	{Sectors: 16384, Size: 512, Regions: 64, RegionSectors: 32, LogSectors: 256, Depth: 8, Memory: 256, Seed: 1},
}

// bad are some that have no layout, or not small's sectors and size.
var bad = []plan.Plan{
	{},
	{Sectors: 60, Size: 96, Regions: 3, RegionSectors: 2, LogSectors: 4, Depth: 2, Memory: 7},
	{Sectors: 60, Size: 96, Regions: 3, RegionSectors: 2, LogSectors: 4, Depth: 2, Memory: 257},
	{Sectors: 60, Size: 96, Regions: 3, RegionSectors: 2, LogSectors: 4, Depth: 5, Memory: 8},
	{Sectors: 61, Size: 96, Regions: 3, RegionSectors: 2, LogSectors: 4, Depth: 2, Memory: 8},
	{Sectors: 60, Size: 97, Regions: 3, RegionSectors: 2, LogSectors: 4, Depth: 2, Memory: 8},
}

// text tells n bytes, none of them 0, that hang on a seed.
func text(seed, n int) []byte {
	b := make([]byte, n)
	for i := range b {
		b[i] = byte(1 + (seed*31+i*7)%255)
	}
	return b
}

// pages tells how many a plan has.
func pages(p plan.Plan) int {
	x, _ := plan.Fit(p)
	return x.Pages
}

// sector tells where a page stands.
func sector(p plan.Plan, n int) int {
	x, _ := plan.Fit(p)
	return x.Page + n
}

// stands tells what stands in the sector of a page with that load.
func stands(p plan.Plan, r super.Ref, load []byte) []byte {
	b, _ := leaf.Build(p.Size, leaf.Leaf{Kind: 2, Place: r.Page, Stamp: r.Stamp, Load: load})
	return b
}

// device tells a new one of a plan's sectors and size.
func device(p plan.Plan) *flash.Device { return flash.New(p.Sectors, p.Size) }

// down lets a device go down.
func down(d *flash.Device) {
	d.Arm(1)
	d.Sync()
}

// unchanged tells whether a device is still as a copy of it is.
func unchanged(d, before *flash.Device) bool { return reflect.DeepEqual(d.Copy(), before.Copy()) }

// need fails the test at once, if an error is another one.
func need(t *testing.T, name string, got, want api.Errno) {
	t.Helper()
	if got != want {
		t.Fatalf("%s: error %d, want %d", name, got, want)
	}
}

// formatted tells a store of a new device.
func formatted(t *testing.T, p plan.Plan) (*flash.Device, *Store) {
	t.Helper()
	d := device(p)
	s, e := Format(d, p)
	need(t, "Format", e, api.OK)
	return d, s
}

// opened tells a store that was there.
func opened(t *testing.T, d *flash.Device, p plan.Plan, gen int) *Store {
	t.Helper()
	s, e := Open(d, p, gen)
	need(t, "Open", e, api.OK)
	return s
}

// made makes a page with a text.
func made(t *testing.T, s *Store, seed int) super.Ref {
	t.Helper()
	r, e := s.New(text(seed, 20))
	need(t, "New", e, api.OK)
	return r
}

// written gives a page another text, and tells its reference then.
func written(t *testing.T, s *Store, r super.Ref, seed int) super.Ref {
	t.Helper()
	r, e := s.Write(r, text(seed, 20))
	need(t, "Write", e, api.OK)
	return r
}

// kept flushes, syncs and commits.
func kept(t *testing.T, d *flash.Device, s *Store) {
	t.Helper()
	need(t, "Flush", s.Flush(), api.OK)
	need(t, "Sync", d.Sync(), api.OK)
	s.Commit()
}

// reads holds a store to a page's load.
func reads(t *testing.T, name string, s *Store, r super.Ref, want []byte) {
	t.Helper()
	if b, e := s.Read(r); e != api.OK || !bytes.Equal(b, want) {
		t.Fatalf("%s: %v reads %d, error %d, want %d", name, r, b, e, want)
	}
}

// fails holds a store to a page that is not read, and why.
func fails(t *testing.T, name string, s *Store, r super.Ref, want api.Errno) {
	t.Helper()
	if b, e := s.Read(r); e != want || b != nil {
		t.Fatalf("%s: %v reads %d, error %d, want %d", name, r, b, e, want)
	}
}

// parts holds a store to its parts.
func parts(t *testing.T, name string, s *Store, taken, fresh, dying, dead []int) {
	t.Helper()
	x := s.Parts()
	if !slices.Equal(x.Taken, taken) || !slices.Equal(x.Fresh, fresh) || !slices.Equal(x.Dying, dying) || !slices.Equal(x.Dead, dead) {
		t.Fatalf("%s: %+v, want %d, %d, %d, %d", name, x, taken, fresh, dying, dead)
	}
}

// is holds a store to its generation, and to how many pages are in memory.
func is(t *testing.T, name string, s *Store, gen, held int) {
	t.Helper()
	if s.Gen() != gen || s.Held() != held {
		t.Fatalf("%s: generation %d, held %d, want %d, %d", name, s.Gen(), s.Held(), gen, held)
	}
}

// numbers tells those from one on, less than another.
func numbers(from, end int) []int {
	var list []int
	for n := from; n < end; n++ {
		list = append(list, n)
	}
	return list
}

// P13.1: a store is made of a device and a plan that is just its; no page is
// taken, whatever stands there, and it makes the generation 1.
func TestFormat(t *testing.T) {
	for _, p := range plans {
		d := device(p)
		need(t, "Put", leaf.Put(d, sector(p, 3), leaf.Leaf{Kind: 2, Place: 3, Stamp: 1, Load: text(1, 9)}), api.OK)
		before := d.Copy()
		s, e := Format(d, p)
		need(t, "Format", e, api.OK)
		is(t, "formatted", s, 1, 0)
		parts(t, "formatted", s, nil, nil, nil, nil)
		if s.Plan() != p || !unchanged(d, before) {
			t.Errorf("plan %+v, or the device is another one", s.Plan())
		}
		if r := made(t, s, 1); r != (super.Ref{Page: 0, Stamp: 1}) {
			t.Errorf("made is %v", r)
		}
	}
	d := device(small)
	down(d)
	s, e := Format(d, small)
	need(t, "of a device that is down", e, api.OK)
	is(t, "of a device that is down", s, 1, 0)
}

// P13.1: a store that is opened makes the generation behind the one it is told;
// no page is taken.
func TestOpen(t *testing.T) {
	for _, p := range plans {
		for _, gen := range []int{0, 1, 2, 77, 1<<40 - 1, 1 << 40} {
			d := device(p)
			need(t, "Put", leaf.Put(d, sector(p, 0), leaf.Leaf{Kind: 2, Place: 0, Stamp: gen, Load: text(1, 9)}), api.OK)
			before := d.Copy()
			s := opened(t, d, p, gen)
			is(t, "opened", s, gen+1, 0)
			parts(t, "opened", s, nil, nil, nil, nil)
			if s.Plan() != p || !unchanged(d, before) {
				t.Errorf("plan %+v, or the device is another one", s.Plan())
			}
			reads(t, "what stands there", s, super.Ref{Page: 0, Stamp: gen}, text(1, 9))
			if r := made(t, s, 1); r != (super.Ref{Page: 0, Stamp: gen + 1}) {
				t.Errorf("made is %v", r)
			}
		}
	}
}

// P13.1: ErrArg of no device ahead of ErrPlan, that ahead of ErrArg of a
// generation that may not be; what is asked of no device has none of its errors.
func TestFormatAndOpenWrong(t *testing.T) {
	off := device(small)
	down(off)
	try := func(name string, d *flash.Device, p plan.Plan, gen int, format, open api.Errno) {
		t.Helper()
		before := d.Copy()
		s, e := Format(d, p)
		if e != format || (s != nil) != (e == api.OK) {
			t.Errorf("Format, %s: error %d, want %d", name, e, format)
		}
		s, e = Open(d, p, gen)
		if e != open || (s != nil) != (e == api.OK) {
			t.Errorf("Open, %s: error %d, want %d", name, e, open)
		}
		if !unchanged(d, before) {
			t.Errorf("%s: the device is another one", name)
		}
	}
	for _, gen := range []int{0, 1, 1 << 40} {
		try("right", device(small), small, gen, api.OK, api.OK)
		try("down", off, small, gen, api.OK, api.OK)
		try("no device", nil, small, gen, api.ErrArg, api.ErrArg)
	}
	for _, gen := range []int{math.MinInt, -1 << 40, -1, 1<<40 + 1, 1 << 41, math.MaxInt} {
		try("generation", device(small), small, gen, api.OK, api.ErrArg)
		try("generation, down", off, small, gen, api.OK, api.ErrArg)
	}
	for _, gen := range []int{-1, 0, 5, 1<<40 + 1} {
		for _, p := range bad {
			try("no plan of its", device(small), p, gen, api.ErrPlan, api.ErrPlan)
			try("no plan of its, down", off, p, gen, api.ErrPlan, api.ErrPlan)
			try("no device, no plan", nil, p, gen, api.ErrArg, api.ErrArg)
		}
	}
}

// P13.1: Mark takes each page that is not taken, whatever its stamp is; it is
// not fresh.
func TestMark(t *testing.T) {
	for _, p := range plans[:4] {
		_, s := formatted(t, p)
		for i, stamp := range []int{0, 1, 5, math.MaxInt, -1, math.MinInt} {
			n := (pages(p) - 1) * (5 - i) / 5
			need(t, "Mark", s.Mark(super.Ref{Page: n, Stamp: stamp}), api.OK)
			for _, again := range []int{stamp, 1, 77} {
				need(t, "again", s.Mark(super.Ref{Page: n, Stamp: again}), api.ErrThere)
			}
		}
		taken := s.Parts().Taken
		if len(taken) != 6 || taken[0] != 0 || taken[5] != pages(p)-1 {
			t.Errorf("taken are %d", taken)
		}
		for _, n := range []int{math.MinInt, -1 << 31, -1, pages(p), pages(p) + 1, p.Sectors, 1 << 14, 1 << 31, math.MaxInt} {
			need(t, fmt.Sprint("Mark of ", n), s.Mark(super.Ref{Page: n, Stamp: 1}), api.ErrRange)
		}
		parts(t, "marked", s, taken, nil, nil, nil)
		r := made(t, s, 1)
		if r.Page != 1 {
			t.Errorf("made is %v", r)
		}
		need(t, "made", s.Mark(r), api.ErrThere)
		s.Commit()
		need(t, "Free", s.Free(r), api.OK)
		need(t, "dying", s.Mark(r), api.ErrThere)
		s.Commit()
		need(t, "dead", s.Mark(r), api.ErrThere)
		s.Commit()
		need(t, "free", s.Mark(r), api.OK)
	}
}

// P13.1: Mourn takes each page that there is, and that is not taken; it is dead,
// and free at the next commit. All others stay what they are.
func TestMourn(t *testing.T) {
	d, s := formatted(t, small)
	for range 3 {
		made(t, s, 1)
	}
	kept(t, d, s)
	need(t, "Free", s.Free(super.Ref{Page: 2, Stamp: 1}), api.OK)
	made(t, s, 2)
	list := []int{5, 0, 7, -1, math.MinInt, 47, 48, math.MaxInt, 1, 2, 3, 5, 5, 6, 6}
	before := slices.Clone(list)
	s.Mourn(list)
	if !slices.Equal(list, before) {
		t.Error("what was handed in was changed")
	}
	parts(t, "mourned", s, []int{0, 1, 2, 3, 5, 6, 7, 47}, []int{3}, []int{2}, []int{5, 6, 7, 47})
	for range 2 {
		s.Mourn(nil)
		s.Mourn([]int{})
		s.Mourn(list)
	}
	parts(t, "again", s, []int{0, 1, 2, 3, 5, 6, 7, 47}, []int{3}, []int{2}, []int{5, 6, 7, 47})
	if r := made(t, s, 3); r.Page != 4 {
		t.Errorf("made is %v", r)
	}
	if r := made(t, s, 3); r.Page != 8 {
		t.Errorf("made is %v", r)
	}
	s.Commit()
	parts(t, "a commit", s, []int{0, 1, 2, 3, 4, 8}, nil, nil, []int{2})
}

// P13.1, P13.2: of nil all numbers are 0, and all else tells ErrArg, or does
// nothing.
func TestNil(t *testing.T) {
	var s *Store
	s.Mourn([]int{0, 1})
	s.Commit()
	is(t, "nil", s, 0, 0)
	parts(t, "nil", s, nil, nil, nil, nil)
	if s.Plan() != (plan.Plan{}) {
		t.Errorf("plan %+v", s.Plan())
	}
	need(t, "Mark", s.Mark(super.Ref{}), api.ErrArg)
	need(t, "Free", s.Free(super.Ref{Page: -1}), api.ErrArg)
	need(t, "Flush", s.Flush(), api.ErrArg)
	fails(t, "nil", s, super.Ref{Page: 1, Stamp: 1}, api.ErrArg)
	fails(t, "nil", s, super.Ref{Page: -1}, api.ErrArg)
	for _, load := range [][]byte{nil, text(1, 5), make([]byte, 1000)} {
		if r, e := s.New(load); e != api.ErrArg || r != (super.Ref{}) {
			t.Errorf("New: %v, error %d", r, e)
		}
		if r, e := s.Write(super.Ref{Page: 1}, load); e != api.ErrArg || r != (super.Ref{}) {
			t.Errorf("Write: %v, error %d", r, e)
		}
	}
}

// P13.2: the document's example.
func TestExample(t *testing.T) {
	_, s := formatted(t, small)
	a := made(t, s, 1)
	if a != (super.Ref{Page: 0, Stamp: 1}) || written(t, s, a, 2) != a {
		t.Errorf("made is %v", a)
	}
	s.Commit()
	if b := written(t, s, a, 3); b != (super.Ref{Page: 1, Stamp: 2}) {
		t.Errorf("written is %v", b)
	}
	parts(t, "written", s, []int{0, 1}, []int{1}, []int{0}, nil)
}

// P13.2: pages are made with each length of a load, and nothing is written as
// long as they are in memory; what stands then in their sectors are leaves of the
// kind 2, of their places, with their stamps.
func TestNew(t *testing.T) {
	for _, p := range plans[:4] {
		d, s := formatted(t, p)
		room := p.Size - 19
		for gen := 1; gen <= 5; gen++ {
			loads := map[super.Ref][]byte{}
			for i, n := range []int{0, 1, 2, room / 2, room - 1, room} {
				load := text(10*gen+i, n)
				r, e := s.New(load)
				need(t, "New", e, api.OK)
				if r.Stamp != gen || loads[r] != nil {
					t.Fatalf("made is %v", r)
				}
				loads[r] = load
				reads(t, "made", s, r, load)
			}
			if acts := d.Acts(); len(s.Parts().Fresh) != 6 || acts != 6*(gen-1) {
				t.Fatalf("%+v, %d writes", s.Parts(), acts)
			}
			need(t, "Flush", s.Flush(), api.OK)
			for r, load := range loads {
				if b, _ := d.Read(sector(p, r.Page)); !bytes.Equal(b, stands(p, r, load)) {
					t.Fatalf("%v is %d, want %d", r, b, stands(p, r, load))
				}
				need(t, "Free", s.Free(r), api.OK)
			}
			s.Commit()
		}
	}
}

// P13.2: a page that is made gets the first number that is not taken, from where
// the last one was taken on, and round; ErrFull, if all are.
func TestNewRound(t *testing.T) {
	for _, p := range plans[:4] {
		_, s := formatted(t, p)
		all := pages(p)
		makes := func(list ...int) {
			t.Helper()
			for _, n := range list {
				if r := made(t, s, n); r != (super.Ref{Page: n, Stamp: 1}) {
					t.Fatalf("made is %v, want %d", r, n)
				}
			}
		}
		frees := func(list ...int) {
			t.Helper()
			for _, n := range list {
				need(t, "Free", s.Free(super.Ref{Page: n, Stamp: 1}), api.OK)
			}
		}
		need(t, "Mark", s.Mark(super.Ref{Page: 2, Stamp: 9}), api.OK)
		makes(0, 1)
		makes(numbers(3, all-1)...)
		frees(5, 4)
		makes(all-1, 4, 5)
		for range 2 {
			if r, e := s.New(nil); e != api.ErrFull || r != (super.Ref{}) {
				t.Fatalf("%v, error %d", r, e)
			}
		}
		frees(7)
		makes(7)
		frees(0, 8, 7)
		makes(8, 0, 7)
		parts(t, "all", s, numbers(0, all), append(numbers(0, 2), numbers(3, all)...), nil, nil)
	}
}

// P13.2: ErrLong of a load that is too long ahead of all else; where there is an
// error, nothing is changed.
func TestWrong(t *testing.T) {
	for _, p := range plans[:4] {
		d, s := formatted(t, p)
		a, b, c := made(t, s, 1), made(t, s, 2), made(t, s, 3)
		kept(t, d, s)
		need(t, "Free", s.Free(b), api.OK)
		s.Mourn([]int{6})
		fresh := written(t, s, c, 4)
		long := []int{p.Size - 18, p.Size, p.Size + 1, 1000, 1 << 20}
		for range 2 {
			device, was, held := d.Copy(), s.Parts(), s.Held()
			for _, n := range long {
				if r, e := s.New(make([]byte, n)); e != api.ErrLong || r != (super.Ref{}) {
					t.Fatalf("New of %d bytes: %v, error %d", n, r, e)
				}
				for _, at := range []int{-1, 0, 1, 2, 3, 6, 9, pages(p)} {
					if r, e := s.Write(super.Ref{Page: at, Stamp: 1}, make([]byte, n)); e != api.ErrLong || r != (super.Ref{}) {
						t.Fatalf("Write of %d bytes: %v, error %d", n, r, e)
					}
				}
			}
			for _, at := range []int{math.MinInt, -1 << 31, -1, pages(p), pages(p) + 1, 1 << 14, 1 << 31, math.MaxInt} {
				r := super.Ref{Page: at, Stamp: 1}
				fails(t, "range", s, r, api.ErrRange)
				need(t, "Free, range", s.Free(r), api.ErrRange)
				if r, e := s.Write(r, text(1, 5)); e != api.ErrRange || r != (super.Ref{}) {
					t.Fatalf("Write: %v, error %d", r, e)
				}
			}
			for _, at := range []int{8, 9, pages(p) - 1} {
				r := super.Ref{Page: at, Stamp: 1}
				need(t, "Free, not taken", s.Free(r), api.ErrNone)
				if r, e := s.Write(r, text(1, 5)); e != api.ErrNone || r != (super.Ref{}) {
					t.Fatalf("Write: %v, error %d", r, e)
				}
			}
			need(t, "Free, dying", s.Free(b), api.ErrNone)
			need(t, "Free, dying, other stamp", s.Free(super.Ref{Page: 1, Stamp: 2}), api.ErrNone)
			need(t, "Free, dead", s.Free(super.Ref{Page: 6}), api.ErrNone)
			if !unchanged(d, device) || !reflect.DeepEqual(s.Parts(), was) || s.Held() != held {
				t.Fatal("something was changed")
			}
			down(d)
		}
		reads(t, "still", s, a, text(1, 20))
		reads(t, "still", s, fresh, text(4, 20))
	}
}

// P13.2: a fresh page that is written stays where it is, in memory or not, where
// all pages are taken, too; the stamp that it is asked for with does not matter.
func TestWriteFresh(t *testing.T) {
	for _, p := range []plan.Plan{tight, roomy} {
		d, s := formatted(t, p)
		all := pages(p)
		for n := range all {
			made(t, s, n)
		}
		for round := range 3 {
			for n := range all {
				r, e := s.Write(super.Ref{Page: n, Stamp: round - 1}, text(100*round+n, 30))
				if e != api.OK || r != (super.Ref{Page: n, Stamp: 1}) {
					t.Fatalf("page %d: %v, error %d", n, r, e)
				}
			}
			parts(t, "written", s, numbers(0, all), numbers(0, all), nil, nil)
			for n := range all {
				reads(t, "written", s, super.Ref{Page: n, Stamp: 1}, text(100*round+n, 30))
			}
		}
		if r, e := s.Write(super.Ref{Page: 3, Stamp: 1}, make([]byte, 78)); e != api.ErrLong || r != (super.Ref{}) {
			t.Errorf("%v, error %d", r, e)
		}
		kept(t, d, s)
		o := opened(t, d, p, 1)
		for n := range all {
			reads(t, "opened", o, super.Ref{Page: n, Stamp: 1}, text(200+n, 30))
		}
	}
}

// P13.2: another page that is written is made anew, and the old one, which is
// dying, reads as it was; ErrFull, if all pages are taken.
func TestWriteOther(t *testing.T) {
	d, s := formatted(t, tight)
	for n := range 12 {
		made(t, s, n)
	}
	kept(t, d, s)
	a := written(t, s, super.Ref{Page: 4, Stamp: 1}, 100)
	if a != (super.Ref{Page: 12, Stamp: 2}) {
		t.Fatalf("written is %v", a)
	}
	parts(t, "written", s, numbers(0, 13), []int{12}, []int{4}, nil)
	reads(t, "new", s, a, text(100, 20))
	reads(t, "old", s, super.Ref{Page: 4, Stamp: 1}, text(4, 20))
	for _, n := range []int{0, 4, 11} {
		if r, e := s.Write(super.Ref{Page: n, Stamp: 1}, nil); e != api.ErrFull || r != (super.Ref{}) {
			t.Fatalf("page %d: %v, error %d", n, r, e)
		}
	}
	parts(t, "full", s, numbers(0, 13), []int{12}, []int{4}, nil)
	if written(t, s, a, 101) != a {
		t.Fatal("the fresh one does not stay")
	}
	s.Commit()
	s.Commit()
	parts(t, "two commits", s, append(numbers(0, 4), numbers(5, 13)...), nil, nil, nil)
	if b := written(t, s, a, 102); b != (super.Ref{Page: 4, Stamp: 4}) {
		t.Fatalf("written is %v", b)
	}
	parts(t, "written again", s, numbers(0, 13), []int{4}, []int{12}, nil)
}

// P13.2: pages that were marked, or that are dying or dead, are written, too:
// made anew, and dying then.
func TestWriteTaken(t *testing.T) {
	_, s := formatted(t, small)
	need(t, "Mark", s.Mark(super.Ref{Page: 0, Stamp: 1}), api.OK)
	s.Mourn([]int{5, 6})
	for i, n := range []int{0, 0, 5} {
		r, e := s.Write(super.Ref{Page: n, Stamp: 1}, text(i, 9))
		if e != api.OK || r != (super.Ref{Page: 1 + i, Stamp: 1}) {
			t.Fatalf("page %d: %v, error %d", n, r, e)
		}
	}
	parts(t, "written", s, []int{0, 1, 2, 3, 5, 6}, []int{1, 2, 3}, []int{0, 5}, []int{6})
	s.Commit()
	parts(t, "a commit", s, []int{0, 1, 2, 3, 5}, nil, nil, []int{0, 5})
	s.Commit()
	parts(t, "another", s, []int{1, 2, 3}, nil, nil, nil)
}

// P13.2: a fresh page that is freed is free at once, and its number is told
// again; another one is dying, then dead, then free.
func TestFree(t *testing.T) {
	d, s := formatted(t, tight)
	a, b := made(t, s, 1), made(t, s, 2)
	need(t, "Free", s.Free(a), api.OK)
	parts(t, "fresh", s, []int{1}, []int{1}, nil, nil)
	need(t, "again", s.Free(a), api.ErrNone)
	if r, e := s.Write(a, nil); e != api.ErrNone || r != (super.Ref{}) {
		t.Fatalf("%v, error %d", r, e)
	}
	kept(t, d, s)
	need(t, "Mark", s.Mark(super.Ref{Page: 7, Stamp: 1}), api.OK)
	need(t, "Free", s.Free(super.Ref{Page: 7, Stamp: 99}), api.OK)
	need(t, "Free", s.Free(b), api.OK)
	for step, x := range [][3][]int{{{1, 7}, {1, 7}, nil}, {{1, 7}, nil, {1, 7}}, {nil, nil, nil}, {nil, nil, nil}} {
		parts(t, fmt.Sprint("step ", step), s, x[0], nil, x[1], x[2])
		is(t, fmt.Sprint("step ", step), s, 2+step, len(x[0])/2)
		need(t, "again", s.Free(b), api.ErrNone)
		if step < 2 {
			reads(t, "not free", s, b, text(2, 20))
		}
		s.Commit()
	}
	for want := range 15 {
		want = (want + 2) % 13
		if r := made(t, s, 3); r != (super.Ref{Page: want, Stamp: 6}) {
			t.Fatalf("made is %v, want %d", r, want)
		}
		need(t, "Free", s.Free(super.Ref{Page: want}), api.OK)
	}
}

// P13.2: behind a commit nothing is fresh, and the next generation is made.
func TestCommit(t *testing.T) {
	_, s := formatted(t, small)
	for gen := 1; gen < 20; gen++ {
		is(t, "made", s, gen, min(gen-1, 8))
		r := made(t, s, gen)
		if r != (super.Ref{Page: gen - 1, Stamp: gen}) {
			t.Fatalf("made is %v", r)
		}
		parts(t, "made", s, numbers(0, gen), []int{gen - 1}, nil, nil)
		s.Commit()
		parts(t, "a commit", s, numbers(0, gen), nil, nil, nil)
	}
	need(t, "Flush", s.Flush(), api.OK)
	for gen := 1; gen < 20; gen++ {
		reads(t, "all", s, super.Ref{Page: gen - 1, Stamp: gen}, text(gen, 20))
	}
}

// P13.2: ErrForm of a page that does not stand there with that stamp, as a leaf
// of that kind and place; and nothing comes into memory then.
func TestReadForm(t *testing.T) {
	r := super.Ref{Page: 7, Stamp: 5}
	load := text(1, 30)
	for name, do := range map[string]func(d *flash.Device) api.Errno{
		"nothing": func(d *flash.Device) api.Errno { return d.Write(19, make([]byte, 96)) },
		"less": func(d *flash.Device) api.Errno {
			return leaf.Put(d, 19, leaf.Leaf{Kind: 2, Place: 7, Stamp: 4, Load: load})
		},
		"more": func(d *flash.Device) api.Errno {
			return leaf.Put(d, 19, leaf.Leaf{Kind: 2, Place: 7, Stamp: 6, Load: load})
		},
		"kind": func(d *flash.Device) api.Errno {
			return leaf.Put(d, 19, leaf.Leaf{Kind: 3, Place: 7, Stamp: 5, Load: load})
		},
		"head": func(d *flash.Device) api.Errno {
			return leaf.Put(d, 19, leaf.Leaf{Kind: 1, Place: 7, Stamp: 5, Load: load})
		},
		"place": func(d *flash.Device) api.Errno {
			return leaf.Put(d, 19, leaf.Leaf{Kind: 2, Place: 8, Stamp: 5, Load: load})
		},
		"its sector": func(d *flash.Device) api.Errno {
			return leaf.Put(d, 19, leaf.Leaf{Kind: 2, Place: 19, Stamp: 5, Load: load})
		},
		"rot": func(d *flash.Device) api.Errno { return d.Rot(19, 33, 1) },
	} {
		d := device(small)
		need(t, "Put", leaf.Put(d, 19, leaf.Leaf{Kind: 2, Place: 7, Stamp: 5, Load: load}), api.OK)
		need(t, "Sync", d.Sync(), api.OK)
		s := opened(t, d, small, 5)
		reads(t, "ahead", s, r, load)
		need(t, name, do(d), api.OK)
		reads(t, "in memory", s, r, load)
		s = opened(t, d, small, 5)
		fails(t, name, s, r, api.ErrForm)
		is(t, name, s, 6, 0)
		need(t, "Mark", s.Mark(r), api.OK)
		fails(t, name, s, r, api.ErrForm)
		is(t, name, s, 6, 0)
	}
	d := device(small)
	need(t, "Put", leaf.Put(d, 19, leaf.Leaf{Kind: 2, Place: 7, Stamp: 5, Load: load}), api.OK)
	for range 2 {
		s := opened(t, d, small, 5)
		for _, stamp := range []int{math.MinInt, -5, -1, 0, 1, 4, 6, 1 << 40, math.MaxInt} {
			fails(t, "stamp", s, super.Ref{Page: 7, Stamp: stamp}, api.ErrForm)
		}
		fails(t, "page", s, super.Ref{Page: 8, Stamp: 5}, api.ErrForm)
		is(t, "stamps", s, 6, 0)
		reads(t, "right", s, r, load)
		is(t, "right", s, 6, 1)
		for _, stamp := range []int{math.MinInt, -1, 0, 4, 6, math.MaxInt} {
			fails(t, "stamp, in memory", s, super.Ref{Page: 7, Stamp: stamp}, api.ErrForm)
		}
		need(t, "Sync", d.Sync(), api.OK)
	}
}

// P13.2: what is in memory counts, not what stands below it on the device, with
// an elder stamp or the same one.
func TestReadAboveElder(t *testing.T) {
	d := device(small)
	for n, stamp := range []int{3, 6} {
		need(t, "Put", leaf.Put(d, 12+n, leaf.Leaf{Kind: 2, Place: n, Stamp: stamp, Load: text(n, 9)}), api.OK)
	}
	s := opened(t, d, small, 5)
	a, b := made(t, s, 10), made(t, s, 11)
	reads(t, "new", s, a, text(10, 20))
	reads(t, "new, same stamp", s, b, text(11, 20))
	fails(t, "elder", s, super.Ref{Page: 0, Stamp: 3}, api.ErrForm)
	need(t, "Flush", s.Flush(), api.OK)
	o := opened(t, d, small, 6)
	reads(t, "new", o, a, text(10, 20))
	reads(t, "new, same stamp", o, b, text(11, 20))
	fails(t, "elder", o, super.Ref{Page: 0, Stamp: 3}, api.ErrForm)
}

// P13.2: what was freed is in memory no more, and is not written any more.
func TestFreedIsNotWritten(t *testing.T) {
	d, s := formatted(t, small)
	for i := range 30 {
		r := made(t, s, i)
		is(t, "made", s, 1, 1)
		need(t, "Free", s.Free(r), api.OK)
		is(t, "freed", s, 1, 0)
		fails(t, "freed", s, r, api.ErrForm)
	}
	a := made(t, s, 50)
	s.Commit()
	need(t, "Free", s.Free(a), api.OK)
	s.Commit()
	is(t, "dead", s, 3, 1)
	reads(t, "dead", s, a, text(50, 20))
	s.Commit()
	is(t, "free", s, 4, 0)
	need(t, "Flush", s.Flush(), api.OK)
	if d.Acts() != 0 {
		t.Errorf("%d writes", d.Acts())
	}
}

// P13.2: a flush writes each dirty page, once: those that are dying or dead, too;
// none that was only read, or written already.
func TestFlush(t *testing.T) {
	d, s := formatted(t, small)
	acts := 0
	flushes := func(name string, want ...super.Ref) {
		t.Helper()
		need(t, name, s.Flush(), api.OK)
		acts += len(want)
		if d.Acts() != acts || d.Loose() != len(want) {
			t.Fatalf("%s: %d writes and syncs, %d loose writes, want %d, %d", name, d.Acts(), d.Loose(), acts, len(want))
		}
		for _, r := range want {
			b, _ := d.Read(12 + r.Page)
			if x, e := leaf.Read(b); e != api.OK || x.Kind != 2 || x.Place != r.Page || x.Stamp != r.Stamp {
				t.Fatalf("%s: %v is %v, error %d", name, r, x, e)
			}
		}
		need(t, "Sync", d.Sync(), api.OK)
		acts++
	}
	flushes("nothing")
	a, b, c := made(t, s, 1), made(t, s, 2), made(t, s, 3)
	flushes("made", a, b, c)
	flushes("again")
	written(t, s, b, 4)
	flushes("written", b)
	is(t, "flushed", s, 1, 3)
	s.Commit()
	flushes("a commit")
	e := written(t, s, a, 5)
	reads(t, "a", s, a, text(1, 20))
	flushes("made anew", e)
	f := made(t, s, 6)
	s.Commit()
	g := written(t, s, f, 7)
	flushes("dying, too", f, g)
	h := made(t, s, 8)
	s.Commit()
	need(t, "Free", s.Free(h), api.OK)
	s.Commit()
	flushes("dead, too", h)
	k := written(t, s, g, 9)
	if written(t, s, k, 10) != k {
		t.Fatal("the fresh one does not stay")
	}
	flushes("written twice", k)
	o := opened(t, d, small, 5)
	reads(t, "opened", o, b, text(4, 20))
	need(t, "Flush", o.Flush(), api.OK)
	if d.Acts() != acts {
		t.Error("what was read was written")
	}
}

// P13.2, P13.3: pages go out of memory as layer 8 words it: none is written as
// long as there is room, then the one under the hand, if it is dirty.
func TestGoesOut(t *testing.T) {
	d, s := formatted(t, small)
	for n := range 8 {
		made(t, s, n)
	}
	if d.Acts() != 0 || s.Held() != 8 {
		t.Fatalf("%d writes, %d held", d.Acts(), s.Held())
	}
	made(t, s, 8)
	out := func(name string, acts, n, seed int) {
		t.Helper()
		b, _ := d.Read(12 + n)
		if want := stands(small, super.Ref{Page: n, Stamp: 1}, text(seed, 20)); d.Acts() != acts || !bytes.Equal(b, want) || s.Held() != 8 {
			t.Fatalf("%s: %d writes, page %d: %d, want %d; %d held", name, d.Acts(), n, b, want, s.Held())
		}
	}
	out("the first one goes", 1, 0, 0)
	reads(t, "marked", s, super.Ref{Page: 1, Stamp: 1}, text(1, 20))
	written(t, s, super.Ref{Page: 2, Stamp: 1}, 20)
	fails(t, "not marked", s, super.Ref{Page: 3, Stamp: 2}, api.ErrForm)
	made(t, s, 9)
	out("the first that is not marked", 2, 3, 3)
	reads(t, "from the device", s, super.Ref{Page: 0, Stamp: 1}, text(0, 20))
	out("for what is read, too", 3, 4, 4)
	need(t, "Flush", s.Flush(), api.OK)
	acts := d.Acts()
	if acts != 3+7 {
		t.Fatalf("%d writes", acts)
	}
	for n, seed := range []int{0, 1, 20, 3, 4, 5, 6, 7, 8, 9} {
		reads(t, "all", s, super.Ref{Page: n, Stamp: 1}, text(seed, 20))
	}
	made(t, s, 10)
	if d.Acts() != acts || s.Held() != 8 {
		t.Fatalf("%d writes, want %d: what is not dirty was written", d.Acts(), acts)
	}
}

// P13.2: the device's error, where something is to be read or written; where
// nothing is, none.
func TestDown(t *testing.T) {
	full := func(t *testing.T) (*flash.Device, *Store) {
		d, s := formatted(t, small)
		for n := range 9 {
			made(t, s, n)
		}
		return d, s
	}
	read := func(n, stamp int) func(s *Store) api.Errno {
		return func(s *Store) api.Errno {
			_, e := s.Read(super.Ref{Page: n, Stamp: stamp})
			return e
		}
	}
	write := func(n int) func(s *Store) api.Errno {
		return func(s *Store) api.Errno {
			r, e := s.Write(super.Ref{Page: n, Stamp: 1}, nil)
			if e != api.OK && r != (super.Ref{}) {
				t.Errorf("%v", r)
			}
			return e
		}
	}
	for _, x := range []struct {
		name string
		do   func(s *Store) api.Errno
		want api.Errno
	}{
		{"made", func(s *Store) api.Errno { _, e := s.New(nil); return e }, api.ErrDown},
		{"too long", func(s *Store) api.Errno { _, e := s.New(make([]byte, 78)); return e }, api.ErrLong},
		{"written, fresh, in memory", write(3), api.OK},
		{"written, fresh, not in memory", write(0), api.ErrDown},
		{"written, another", func(s *Store) api.Errno { s.Commit(); return write(3)(s) }, api.ErrDown},
		{"written, none", write(20), api.ErrNone},
		{"written, out of range", write(48), api.ErrRange},
		{"read, in memory", read(5, 1), api.OK},
		{"read, in memory, stamp", read(5, 2), api.ErrForm},
		{"read, not in memory", read(0, 1), api.ErrDown},
		{"read, not in memory, stamp", read(0, 2), api.ErrDown},
		{"read, none", read(30, 1), api.ErrDown},
		{"read, out of range", read(-1, 1), api.ErrRange},
		{"freed", func(s *Store) api.Errno { return s.Free(super.Ref{Page: 0}) }, api.OK},
		{"flushed", (*Store).Flush, api.ErrDown},
		{"marked", func(s *Store) api.Errno { return s.Mark(super.Ref{Page: 30}) }, api.OK},
	} {
		d, s := full(t)
		down(d)
		need(t, x.name, x.do(s), x.want)
	}
	d, s := full(t)
	need(t, "Flush", s.Flush(), api.OK)
	down(d)
	need(t, "nothing to flush", s.Flush(), api.OK)
	if _, e := s.New(nil); e != api.OK {
		t.Errorf("nothing dirty goes out: error %d", e)
	}
}

// P13.2: a write at which the device goes down tells it: where a page goes out of
// memory, or in the midst of a flush; none is written behind it.
func TestGoesDown(t *testing.T) {
	for n := 1; n <= 8; n++ {
		d, s := formatted(t, small)
		for i := range 8 {
			made(t, s, i)
		}
		d.Arm(n)
		need(t, "Flush", s.Flush(), api.ErrDown)
		if d.Acts() != n {
			t.Errorf("%d writes, want %d", d.Acts(), n)
		}
	}
	for _, read := range []bool{true, false} {
		d, s := formatted(t, small)
		for i := range 9 {
			made(t, s, i)
		}
		d.Arm(1)
		if read {
			fails(t, "goes out for what is read", s, super.Ref{Page: 0, Stamp: 1}, api.ErrDown)
		} else if r, e := s.New(nil); e != api.ErrDown || r != (super.Ref{}) {
			t.Errorf("%v, error %d", r, e)
		}
	}
}

// P13.1, P13.2: what is handed in is neither kept nor changed, nor what is behind
// its end; what is handed out is no one else's.
func TestMemory(t *testing.T) {
	d, s := formatted(t, small)
	long := text(1, 60)
	before := slices.Clone(long)
	a, e := s.New(long[:20])
	need(t, "New", e, api.OK)
	reads(t, "made", s, a, before[:20])
	b, e := s.New(nil)
	need(t, "New", e, api.OK)
	b, e = s.Write(b, long[:30])
	need(t, "Write", e, api.OK)
	if !bytes.Equal(long, before) {
		t.Fatal("what was handed in was changed")
	}
	clear(long)
	for _, far := range []bool{false, true, true} {
		for _, r := range []super.Ref{a, b} {
			for range 2 {
				x, e := s.Read(r)
				if e != api.OK || !bytes.Equal(x, before[:20+10*r.Page]) {
					t.Fatalf("%v reads %d, error %d", r, x, e)
				}
				clear(x[:cap(x)])
			}
		}
		if !far {
			need(t, "Flush", s.Flush(), api.OK)
			s = opened(t, d, small, 1)
		}
	}
	s.Mark(a)
	s.Mourn([]int{5, 6})
	s.Free(a)
	made(t, s, 1)
	want, got := s.Parts(), s.Parts()
	for _, list := range [][]int{got.Taken, got.Fresh, got.Dying, got.Dead} {
		if len(list) == 0 {
			t.Fatalf("%+v", want)
		}
		list = list[:cap(list)]
		for i := range list {
			list[i] = 77
		}
	}
	if !reflect.DeepEqual(s.Parts(), want) {
		t.Errorf("%+v, want %+v", s.Parts(), want)
	}
}

// thing is a page in memory, as the document words it.
type thing struct {
	n, stamp            int
	load                []byte
	dirty, marked, full bool
}

// worded is a store as the document words it, with its device's sectors.
type worded struct {
	p                         plan.Plan
	gen, next, hand, acts     int
	taken, fresh, dying, dead map[int]bool
	memory                    []thing
	sectors                   map[int][]byte
}

func newWorded(p plan.Plan, gen int) *worded {
	return &worded{
		p: p, gen: gen + 1, memory: make([]thing, p.Memory), sectors: map[int][]byte{},
		taken: map[int]bool{}, fresh: map[int]bool{}, dying: map[int]bool{}, dead: map[int]bool{},
	}
}

// place tells where in memory a page is, or -1.
func (w *worded) place(n int) int {
	return slices.IndexFunc(w.memory, func(x thing) bool { return x.full && x.n == n })
}

func (w *worded) held() int {
	held := 0
	for _, x := range w.memory {
		if x.full {
			held++
		}
	}
	return held
}

func (w *worded) write(x *thing) {
	if x.dirty {
		w.sectors[sector(w.p, x.n)] = stands(w.p, super.Ref{Page: x.n, Stamp: x.stamp}, x.load)
		x.dirty = false
		w.acts++
	}
}

func (w *worded) put(x thing) {
	at := w.place(x.n)
	if at < 0 {
		at = slices.IndexFunc(w.memory, func(y thing) bool { return !y.full })
	}
	for at < 0 {
		if y := &w.memory[w.hand]; y.marked {
			y.marked = false
		} else {
			w.write(y)
			at = w.hand
		}
		w.hand = (w.hand + 1) % len(w.memory)
	}
	x.full, x.marked = true, true
	w.memory[at] = x
}

func (w *worded) release(n int) {
	delete(w.taken, n)
	if at := w.place(n); at >= 0 {
		w.memory[at] = thing{}
	}
}

func (w *worded) make(load []byte) (super.Ref, api.Errno) {
	for i := range pages(w.p) {
		if n := (w.next + i) % pages(w.p); !w.taken[n] {
			w.taken[n], w.fresh[n] = true, true
			w.next = n + 1
			w.put(thing{n: n, stamp: w.gen, load: load, dirty: true})
			return super.Ref{Page: n, Stamp: w.gen}, api.OK
		}
	}
	return super.Ref{}, api.ErrFull
}

func (w *worded) change(n int, load []byte) (super.Ref, api.Errno) {
	switch {
	case !w.taken[n]:
		return super.Ref{}, api.ErrNone
	case w.fresh[n]:
		w.put(thing{n: n, stamp: w.gen, load: load, dirty: true})
		return super.Ref{Page: n, Stamp: w.gen}, api.OK
	}
	r, e := w.make(load)
	if e == api.OK {
		delete(w.dead, n)
		w.dying[n] = true
	}
	return r, e
}

func (w *worded) free(n int) api.Errno {
	switch {
	case !w.taken[n] || w.dying[n] || w.dead[n]:
		return api.ErrNone
	case w.fresh[n]:
		delete(w.fresh, n)
		w.release(n)
	default:
		w.dying[n] = true
	}
	return api.OK
}

func (w *worded) read(r super.Ref) ([]byte, api.Errno) {
	if at := w.place(r.Page); at >= 0 {
		if w.memory[at].stamp != r.Stamp {
			return nil, api.ErrForm
		}
		w.memory[at].marked = true
		return w.memory[at].load, api.OK
	}
	x, e := leaf.Read(w.sectors[sector(w.p, r.Page)])
	if e != api.OK || x.Stamp != r.Stamp {
		return nil, api.ErrForm
	}
	w.put(thing{n: r.Page, stamp: r.Stamp, load: x.Load})
	return x.Load, api.OK
}

func (w *worded) flush() {
	for i := range w.memory {
		w.write(&w.memory[i])
	}
}

func (w *worded) commit() {
	for n := range w.dead {
		w.release(n)
	}
	w.dead, w.dying, w.fresh = w.dying, map[int]bool{}, map[int]bool{}
	w.gen++
}

// same holds a store and its device to the words.
func (w *worded) same(t *testing.T, s *Store, d *flash.Device) {
	t.Helper()
	is(t, "as worded", s, w.gen, w.held())
	in := func(set map[int]bool) []int { return slices.Sorted(maps.Keys(set)) }
	parts(t, "as worded", s, in(w.taken), in(w.fresh), in(w.dying), in(w.dead))
	if d.Acts() != w.acts || s.Held() > w.p.Memory {
		t.Fatalf("%d writes, want %d; %d held", d.Acts(), w.acts, s.Held())
	}
	for at := range w.p.Sectors {
		want := w.sectors[at]
		if want == nil {
			want = make([]byte, w.p.Size)
		}
		if b, _ := d.Read(at); !bytes.Equal(b, want) {
			t.Fatalf("sector %d: %d, want %d", at, b, want)
		}
	}
}

// elder lets some pages stand on the device, as they may when a store is opened.
func (w *worded) elder(t *testing.T, r *rand.Rand, d *flash.Device) {
	t.Helper()
	for range r.IntN(20) {
		n, stamp, load := r.IntN(min(pages(w.p), 30)), r.IntN(4), text(r.IntN(1000), 9)
		at := sector(w.p, n)
		need(t, "Put", leaf.Put(d, at, leaf.Leaf{Kind: 2, Place: n, Stamp: stamp, Load: load}), api.OK)
		w.sectors[at] = stands(w.p, super.Ref{Page: n, Stamp: stamp}, load)
	}
	w.acts = d.Acts()
}

// step does the same with a store and the words, holds what they answer against
// one another, and tells what was done.
func (w *worded) step(t *testing.T, r *rand.Rand, s *Store) string {
	t.Helper()
	n := r.IntN(min(pages(w.p), 30))
	ref := super.Ref{Page: n, Stamp: max(w.gen-r.IntN(5), 0)}
	load := text(r.IntN(1<<20), r.IntN(w.p.Size-18))
	var name string
	var got, want api.Errno
	var gotRef, wantRef super.Ref
	var gotLoad, wantLoad []byte
	switch r.IntN(16) {
	case 0:
		name, got = "flush", s.Flush()
		w.flush()
	case 1:
		name = "commit"
		s.Commit()
		w.commit()
	case 2, 3, 4:
		name = "new"
		gotRef, got = s.New(load)
		wantRef, want = w.make(load)
	case 5, 6, 7:
		name = "write"
		gotRef, got = s.Write(ref, load)
		wantRef, want = w.change(n, load)
	case 8, 9:
		name, got, want = "free", s.Free(ref), w.free(n)
	case 10:
		name, got = "mark", s.Mark(ref)
		if w.taken[n] {
			want = api.ErrThere
		}
		w.taken[n] = true
	case 11:
		name = "mourn"
		s.Mourn([]int{n, n, -1})
		if !w.taken[n] {
			w.taken[n], w.dead[n] = true, true
		}
	default:
		name = "read"
		gotLoad, got = s.Read(ref)
		wantLoad, want = w.read(ref)
	}
	if got != want || gotRef != wantRef || !bytes.Equal(gotLoad, wantLoad) {
		t.Fatalf("%s of %v: %v, %d, error %d, want %v, %d, %d", name, ref, gotRef, gotLoad, got, wantRef, wantLoad, want)
	}
	return fmt.Sprint(name, " ", got)
}

// P13.1, P13.2: whatever is done without a crash, each store is as the document
// words it: which pages are what, what they hold, which are in memory, and when
// they are written.
func TestAsWorded(t *testing.T) {
	counts := map[string]int{}
	for i, p := range plans[:4] {
		for seed := range uint64(25) {
			r := rand.New(rand.NewPCG(seed, uint64(i)))
			d := device(p)
			gen := r.IntN(3)
			s, w := opened(t, d, p, gen), newWorded(p, gen)
			w.elder(t, r, d)
			for range 150 {
				counts[w.step(t, r, s)]++
				w.same(t, s, d)
			}
		}
	}
	for _, name := range []string{"new 0", "new 6", "write 0", "write 6", "write 7", "free 0", "free 7", "mark 0", "mark 8", "read 0", "read 5"} {
		if counts[name] < 30 {
			t.Errorf("too little was tried: %v", counts)
		}
	}
}

// P13.3: of a plan with the greatest numbers, too: what was written is read, and
// never more is in memory than may be.
func TestGreatestPlan(t *testing.T) {
	p := plans[4]
	d, s := formatted(t, p)
	all := pages(p)
	refs := make([]super.Ref, all)
	for n := range all {
		refs[n] = made(t, s, n)
		if s.Held() != min(n+1, 256) {
			t.Fatalf("%d held", s.Held())
		}
	}
	if _, e := s.New(nil); e != api.ErrFull {
		t.Fatalf("error %d", e)
	}
	kept(t, d, s)
	for n := 0; n < all; n += 2 {
		need(t, "Free", s.Free(refs[n]), api.OK)
	}
	s.Commit()
	s.Commit()
	for n := 1; n < all; n += 2 {
		refs[n] = written(t, s, refs[n], n+5)
	}
	kept(t, d, s)
	o := opened(t, d, p, 4)
	for n := 1; n < all; n += 2 {
		reads(t, "all", s, refs[n], text(n+5, 20))
		reads(t, "opened", o, refs[n], text(n+5, 20))
		if s.Held() != 256 || o.Held() > 256 {
			t.Fatalf("%d, %d held", s.Held(), o.Held())
		}
	}
}

// state is what there was at a commit: of each reference the load.
type state struct {
	gen   int
	loads map[super.Ref][]byte
}

// tale is what was done with a store.
type tale struct {
	now    map[super.Ref][]byte // what there is
	newest state                // at the last commit
	sure   bool                 // had that been flushed and synced?
	last   state                // at the last one that had been
	ahead  state                // at the one ahead of that
	counts bool                 // is that still to be read?
}

// commits lets a store commit, flushed and synced or not, and tells whether the
// device did it.
func (x *tale) commits(d *flash.Device, s *Store, sure bool) bool {
	now := state{s.Gen(), maps.Clone(x.now)}
	if sure && (s.Flush() != api.OK || d.Sync() != api.OK) {
		return false
	}
	s.Commit()
	if sure {
		x.last, x.ahead = now, x.newest
	}
	x.newest, x.sure, x.counts = now, sure, sure
	return true
}

// step does something with a store, and tells whether the device did it. No two
// commits that are not flushed are one behind the other: behind these what is
// dead is free, though it may count still.
func (x *tale) step(t *testing.T, r *rand.Rand, d *flash.Device, s *Store) bool {
	refs := slices.SortedFunc(maps.Keys(x.now), func(a, b super.Ref) int { return a.Page - b.Page })
	at := super.Ref{Page: -1}
	if len(refs) > 0 {
		at = refs[r.IntN(len(refs))]
	}
	load := text(r.IntN(1<<20), r.IntN(d.Size()-18))
	put := func(n super.Ref, e api.Errno) bool {
		if e == api.OK {
			x.now[n] = load
		}
		return e == api.OK || e == api.ErrFull
	}
	switch k := r.IntN(20); {
	case k == 0 || k == 1 && x.sure:
		return x.commits(d, s, k == 0)
	case k == 2:
		return s.Flush() == api.OK
	case k == 3:
		return d.Sync() == api.OK
	case k < 8 || len(refs) < 3:
		return put(s.New(load))
	case k < 10:
		need(t, "Free", s.Free(at), api.OK)
		delete(x.now, at)
	case k < 16:
		n, e := s.Write(at, load)
		if e == api.OK {
			delete(x.now, at)
		}
		return put(n, e)
	default:
		b, e := s.Read(at)
		if e == api.ErrDown {
			return false
		}
		if e != api.OK || !bytes.Equal(b, x.now[at]) {
			t.Fatalf("%v reads %d, error %d, want %d", at, b, e, x.now[at])
		}
	}
	return true
}

// fates tells one for each loose write: nothing, all, or some bytes of it.
func fates(r *rand.Rand, d *flash.Device) []int {
	list := make([]int, d.Loose())
	for i := range list {
		switch r.IntN(3) {
		case 0:
			list[i] = d.Size()
		case 1:
			list[i] = r.IntN(d.Size() + 1)
		}
	}
	return list
}

// has holds a store to all that there was at a commit.
func has(t *testing.T, name string, s *Store, x state) {
	t.Helper()
	for r, load := range x.loads {
		reads(t, name, s, r, load)
		if s.Held() > s.Plan().Memory {
			t.Fatalf("%d are in memory", s.Held())
		}
	}
}

// goesOn lets a store that was opened take what there was at the last commit,
// and lets what there was only at the one ahead of it be dead.
func (x *tale) goesOn(t *testing.T, s *Store) {
	t.Helper()
	for r := range x.last.loads {
		need(t, "Mark", s.Mark(r), api.OK)
	}
	if x.counts {
		var list []int
		for r := range x.ahead.loads {
			list = append(list, r.Page)
		}
		s.Mourn(list)
	}
	x.now = map[super.Ref][]byte{}
	maps.Copy(x.now, x.last.loads)
	x.newest, x.sure = x.last, true
}

// P13.3: wherever the device goes down, and whatever a crash lets be done, again
// and again: what there was at the last commit that had been flushed and synced,
// and at the one ahead of it, is read by a store that is opened.
func TestCrashes(t *testing.T) {
	counts := map[string]int{}
	for i, p := range plans[:4] {
		for seed := range uint64(120) {
			r := rand.New(rand.NewPCG(seed, uint64(i)+13))
			d, s := formatted(t, p)
			x := &tale{now: map[super.Ref][]byte{}, sure: true, counts: true}
			for range 8 {
				if r.IntN(8) > 0 {
					d.Arm(1 + r.IntN(60))
				}
				for range 120 {
					if !x.step(t, r, d, s) {
						counts["down"]++
						break
					}
				}
				d.Crash(fates(r, d))
				if len(leaf.Foul(d)) > 0 {
					counts["foul"]++
					break
				}
				s = opened(t, d, p, x.last.gen)
				has(t, "the last commit", s, x.last)
				counts["last"] += len(x.last.loads)
				if x.counts {
					has(t, "the one ahead of it", s, x.ahead)
					for r := range x.ahead.loads {
						if x.last.loads[r] == nil {
							counts["ahead"]++
						}
					}
				}
				s = opened(t, d, p, x.last.gen)
				x.goesOn(t, s)
			}
		}
	}
	if counts["foul"] > 0 || counts["down"] < 1000 || counts["last"] < 10000 || counts["ahead"] < 2000 {
		t.Errorf("too little was tried: %v", counts)
	}
}
