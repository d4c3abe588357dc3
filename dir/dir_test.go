package dir

import (
	"bytes"
	"fmt"
	"math"
	"math/rand/v2"
	"reflect"
	"slices"
	"testing"

	"sgraffito/api"
	"sgraffito/flash"
	"sgraffito/plan"
	"sgraffito/store"
	"sgraffito/super"
)

// deep is the plan with which most is tried: up to 32 slots, 6 in a page, so 6
// pages at most, the last one of 2. flat has but one slot. odd has 9 references in
// a page, and just as many pages as it must have; wide the greatest depth, 41 in a
// page; square as many slots as may be in Per pages, 16 of 16.
var (
	deep   = plan.Plan{Sectors: 200, Size: 96, Regions: 3, RegionSectors: 2, LogSectors: 4, Depth: 5, Memory: 8}
	flat   = plan.Plan{Sectors: 22, Size: 96, Regions: 3, RegionSectors: 1, LogSectors: 4, Depth: 0, Memory: 8}
	odd    = plan.Plan{Sectors: 232, Size: 131, Regions: 3, RegionSectors: 1, LogSectors: 4, Depth: 6, Memory: 9}
	wide   = plan.Plan{Sectors: 1000, Size: 512, Regions: 3, RegionSectors: 2, LogSectors: 4, Depth: 8, Memory: 256}
	square = plan.Plan{Sectors: 1000, Size: 211, Regions: 3, RegionSectors: 2, LogSectors: 4, Depth: 8, Memory: 30, Seed: 9}
)

// perOf tells how many references go into a page of these plans.
var perOf = map[plan.Plan]int{deep: 6, flat: 6, odd: 9, wide: 41, square: 16}

// plans are all of them.
var plans = []plan.Plan{deep, flat, odd, wide, square}

// wrongRefs are some that may not be.
var wrongRefs = []super.Ref{
	{Page: -1},
	{Page: math.MinInt},
	{Page: 1 << 31},
	{Page: 1 << 32},
	{Page: math.MaxInt, Stamp: 1},
	{Stamp: -1},
	{Page: 5, Stamp: math.MinInt},
	{Page: -1, Stamp: -1},
}

// edgeRefs are some that just may.
var edgeRefs = []super.Ref{
	{},
	{Page: 1<<31 - 1},
	{Stamp: math.MaxInt},
	{Page: 1<<31 - 1, Stamp: math.MaxInt},
	{Page: 0x01020304, Stamp: 0x0102030405060708},
	{Page: 255, Stamp: 256},
}

// ref tells a reference that hangs on a number.
func ref(n int) super.Ref { return super.Ref{Page: 3*n + 1, Stamp: n % 7} }

// refs tells one for each number.
func refs(list ...int) []super.Ref {
	var row []super.Ref
	for _, n := range list {
		row = append(row, ref(n))
	}
	return row
}

// lowest tells a number of so many bytes, the lowest first.
func lowest(n uint64, width int) []byte {
	var b []byte
	for range width {
		b = append(b, byte(n))
		n /= 256
	}
	return b
}

// load tells a page of references, as the document words it.
func load(row ...super.Ref) []byte {
	b := []byte{}
	for _, r := range row {
		b = append(b, lowest(uint64(r.Page), 4)...)
		b = append(b, lowest(uint64(r.Stamp), 8)...)
	}
	return b
}

// need fails the test at once, if an error is another one.
func need(t *testing.T, name string, got, want api.Errno) {
	t.Helper()
	if got != want {
		t.Fatalf("%s: error %d, want %d", name, got, want)
	}
}

// stored tells a store of a new device.
func stored(t *testing.T, p plan.Plan) (*flash.Device, *store.Store) {
	t.Helper()
	d := flash.New(p.Sectors, p.Size)
	s, e := store.Format(d, p)
	need(t, "Format", e, api.OK)
	return d, s
}

// down lets a device go down.
func down(d *flash.Device) {
	d.Arm(1)
	d.Sync()
}

// kept flushes, syncs and commits.
func kept(t *testing.T, d *flash.Device, s *store.Store) {
	t.Helper()
	need(t, "Flush", s.Flush(), api.OK)
	need(t, "Sync", d.Sync(), api.OK)
	s.Commit()
}

// made tells a directory of depth 0, whose slot has ref(0).
func made(t *testing.T, s *store.Store) *Dir {
	t.Helper()
	x, e := Make(s, ref(0))
	need(t, "Make", e, api.OK)
	return x
}

// grown tells one of a depth, each of whose slots has a reference of its own: the
// slot n ref(n).
func grown(t *testing.T, s *store.Store, depth int) *Dir {
	t.Helper()
	x := made(t, s)
	for range depth {
		need(t, "Double", x.Double(), api.OK)
	}
	for n := range 1 << depth {
		need(t, "Set", x.Set([]int{n}, ref(n)), api.OK)
	}
	return x
}

// has holds a directory to its depth, to what its slots have, and to how that
// stands in the store.
func has(t *testing.T, name string, x *Dir, s *store.Store, want []super.Ref) {
	t.Helper()
	if 1<<x.Depth() != len(want) {
		t.Fatalf("%s: depth %d, want %d slots", name, x.Depth(), len(want))
	}
	if l, e := x.All(); e != api.OK || !slices.Equal(l, want) {
		t.Fatalf("%s: All: %v, error %d, want %v", name, l, e, want)
	}
	for slot, r := range want {
		if got, e := x.Get(slot); e != api.OK || got != r {
			t.Fatalf("%s: Get(%d): %v, error %d, want %v", name, slot, got, e, r)
		}
	}
	own, e := x.Pages()
	rows := slices.Collect(slices.Chunk(want, perOf[s.Plan()]))
	if e != api.OK || len(own) != 1+len(rows) || own[0] != x.Root() {
		t.Fatalf("%s: Pages: %v, error %d, root %v, want %d rows", name, own, e, x.Root(), len(rows))
	}
	reads(t, name, s, own[0], own[1:])
	for at, row := range rows {
		reads(t, name, s, own[1+at], row)
	}
}

// reads holds a page of a store to the references that it has.
func reads(t *testing.T, name string, s *store.Store, r super.Ref, want []super.Ref) {
	t.Helper()
	if b, e := s.Read(r); e != api.OK || !bytes.Equal(b, load(want...)) {
		t.Fatalf("%s: page %v is %d, error %d, want %v", name, r, b, e, want)
	}
}

// same holds a store and its device to what they were.
func same(t *testing.T, name string, s, was *store.Store) {
	t.Helper()
	if !reflect.DeepEqual(s, was) {
		t.Fatalf("%s: the store was changed: %+v, was %+v", name, s.Parts(), was.Parts())
	}
}

// twin tells a device, a store and a directory that were made alike twice: what is
// done to one of them can be told by the other.
func twin(t *testing.T, p plan.Plan, do func(d *flash.Device, s *store.Store) *Dir) (d *flash.Device, s *store.Store, x *Dir, was *store.Store) {
	t.Helper()
	d, was = stored(t, p)
	do(d, was)
	d, s = stored(t, p)
	x = do(d, s)
	same(t, "twins", s, was)
	return d, s, x, was
}

// errs holds each call that looks at all pages to an error, beside which there is
// nothing.
func errs(t *testing.T, name string, x *Dir, want api.Errno) {
	t.Helper()
	if l, e := x.All(); e != want || len(l) != 0 {
		t.Errorf("%s: All: %v, error %d, want %d", name, l, e, want)
	}
	depth, root := x.Depth(), x.Root()
	if e := x.Double(); e != want || x.Depth() != depth || x.Root() != root {
		t.Errorf("%s: Double: error %d, want %d, depth %d", name, e, want, x.Depth())
	}
}

// pagesErr holds Pages to an error, beside which there is nothing.
func pagesErr(t *testing.T, name string, x *Dir, want api.Errno) {
	t.Helper()
	if l, e := x.Pages(); e != want || len(l) != 0 {
		t.Errorf("%s: Pages: %v, error %d, want %d", name, l, e, want)
	}
}

// slotErr holds each call that looks at a slot's page to an error.
func slotErr(t *testing.T, name string, x *Dir, slot int, want api.Errno) {
	t.Helper()
	root := x.Root()
	if r, e := x.Get(slot); e != want || r != (super.Ref{}) {
		t.Errorf("%s: Get(%d): %v, error %d, want %d", name, slot, r, e, want)
	}
	if e := x.Set([]int{slot}, ref(99)); e != want || x.Root() != root {
		t.Errorf("%s: Set(%d): error %d, want %d", name, slot, e, want)
	}
}

// P15.1, P15.2: a directory that is made has the depth 0, one slot, and that has
// what it was made with; it stands in two fresh pages.
func TestMake(t *testing.T) {
	for _, p := range plans {
		for n, r := range append(refs(0, 1, 77), edgeRefs...) {
			_, s := stored(t, p)
			for i := range n % 3 {
				s.New([]byte{byte(i)})
			}
			x, e := Make(s, r)
			need(t, "Make", e, api.OK)
			has(t, "made", x, s, []super.Ref{r})
			if l := s.Parts().Fresh; len(l) != n%3+2 || x.Root().Stamp != 1 {
				t.Errorf("fresh are %d, root %v", l, x.Root())
			}
		}
	}
}

// P15.1: ErrArg of no store, and of a reference that may not be; nothing is
// changed then.
func TestMakeWrong(t *testing.T) {
	for _, r := range append(refs(0), wrongRefs...) {
		if x, e := Make(nil, r); e != api.ErrArg || x != nil {
			t.Errorf("no store: %v, error %d", x, e)
		}
	}
	for _, r := range wrongRefs {
		_, s := stored(t, deep)
		_, was := stored(t, deep)
		if x, e := Make(s, r); e != api.ErrArg || x != nil {
			t.Errorf("%v: %v, error %d", r, x, e)
		}
		same(t, "wrong", s, was)
	}
}

// P15.1: the store's ErrFull, where there is no room for two pages; nothing is
// changed then.
func TestMakeFull(t *testing.T) {
	for left := range 4 {
		fill := func(_ *flash.Device, s *store.Store) *Dir {
			x, _ := plan.Fit(deep)
			for range x.Pages - 3 {
				s.New(nil)
			}
			s.Commit()
			for range 3 - left {
				s.New(nil)
			}
			return nil
		}
		_, s, _, was := twin(t, deep, fill)
		x, e := Make(s, ref(1))
		if left >= 2 {
			need(t, "room", e, api.OK)
			has(t, "room", x, s, refs(1))
			continue
		}
		if e != api.ErrFull || x != nil {
			t.Errorf("%d left: %v, error %d", left, x, e)
		}
		same(t, "full", s, was)
	}
}

// P15.1: the device's error, where a page goes out of memory for one of a
// directory that is made, whichever of them it is.
func TestMakeDown(t *testing.T) {
	for room := range 4 {
		d, s := stored(t, deep)
		for range 8 - room {
			s.New([]byte{1})
		}
		down(d)
		x, e := Make(s, ref(1))
		if want := room < 2; want != (e == api.ErrDown) || want != (x == nil) {
			t.Errorf("room for %d pages: %v, error %d", room, x, e)
		}
	}
	seen := map[api.Errno]int{}
	for turn := range 12 {
		d, s := stored(t, deep)
		oneDirty(t, d, s, turn)
		down(d)
		x, e := Make(s, ref(1))
		seen[e]++
		d.Crash(nil)
		if (e == api.OK) != (x != nil) {
			t.Fatalf("turn %d: %v, error %d", turn, x, e)
		}
		if e == api.OK {
			has(t, "made", x, s, refs(1))
		}
	}
	if len(seen) != 2 || seen[api.OK] == 0 || seen[api.ErrDown] != 2 {
		t.Errorf("errors %v", seen)
	}
}

// P15.1: what is opened has the depth and the root that it is told; ErrArg of no
// store, and of a depth that is not from 0 to the plan's.
func TestOpen(t *testing.T) {
	for _, p := range plans {
		_, s := stored(t, p)
		for _, depth := range []int{math.MinInt, -1, 0, 1, p.Depth - 1, p.Depth, p.Depth + 1, 8, 9, 63, 64, math.MaxInt} {
			for _, root := range slices.Concat(refs(0, 1), wrongRefs, edgeRefs) {
				if x, e := Open(nil, depth, root); e != api.ErrArg || x != nil {
					t.Errorf("no store: %v, error %d", x, e)
				}
				x, e := Open(s, depth, root)
				if depth < 0 || depth > p.Depth {
					if e != api.ErrArg || x != nil {
						t.Errorf("depth %d: %v, error %d", depth, x, e)
					}
				} else if e != api.OK || x.Depth() != depth || x.Root() != root {
					t.Errorf("depth %d, root %v: error %d", depth, root, e)
				}
			}
		}
	}
}

// P15.1: a directory that is opened is looked at only when it is asked for
// something.
func TestOpenLooksLater(t *testing.T) {
	d, s := stored(t, deep)
	x := grown(t, s, 4)
	kept(t, d, s)
	o, e := store.Open(d, deep, 1)
	need(t, "Open", e, api.OK)
	down(d)
	y, e := Open(o, 4, x.Root())
	if e != api.OK || o.Held() != 0 || y.Depth() != 4 || y.Root() != x.Root() {
		t.Fatalf("error %d, %d pages are in memory", e, o.Held())
	}
	slotErr(t, "down", y, 3, api.ErrDown)
	errs(t, "down", y, api.ErrDown)
	pagesErr(t, "down", y, api.ErrDown)
	d.Crash(nil)
	has(t, "up", y, o, refs(numbers(16)...))
	y, e = Open(s, 3, ref(88))
	need(t, "nothing there", e, api.OK)
	errs(t, "nothing there", y, api.ErrRange)
}

// numbers tells those from 0 on, less than an end.
func numbers(end int) []int {
	var list []int
	for n := range end {
		list = append(list, n)
	}
	return list
}

// P15.1, P15.2: of nil depth and root are 0, and all else tells ErrArg.
func TestNil(t *testing.T) {
	var x *Dir
	if x.Depth() != 0 || x.Root() != (super.Ref{}) {
		t.Errorf("depth %d, root %v", x.Depth(), x.Root())
	}
	for _, slot := range []int{0, -1, 5} {
		if r, e := x.Get(slot); e != api.ErrArg || r != (super.Ref{}) {
			t.Errorf("Get: %v, error %d", r, e)
		}
		need(t, "Set", x.Set([]int{slot}, ref(1)), api.ErrArg)
		need(t, "Set", x.Set([]int{slot}, wrongRefs[0]), api.ErrArg)
	}
	need(t, "Set", x.Set(nil, ref(1)), api.ErrArg)
	need(t, "Double", x.Double(), api.ErrArg)
	if l, e := x.All(); e != api.ErrArg || len(l) != 0 {
		t.Errorf("All: %v, error %d", l, e)
	}
	pagesErr(t, "nil", x, api.ErrArg)
}

// P15.2: the document's example.
func TestExample(t *testing.T) {
	_, s := stored(t, deep)
	five, six := super.Ref{Page: 5, Stamp: 1}, super.Ref{Page: 6, Stamp: 1}
	x, e := Make(s, five)
	need(t, "Make", e, api.OK)
	has(t, "made", x, s, []super.Ref{five})
	need(t, "Double", x.Double(), api.OK)
	need(t, "Set", x.Set([]int{1}, six), api.OK)
	has(t, "set", x, s, []super.Ref{five, six})
}

// P15.2: ErrRange of a slot that there is not, at each depth; all that there are
// tell what they have.
func TestGetRange(t *testing.T) {
	for _, p := range plans {
		_, s := stored(t, p)
		for depth := range p.Depth + 1 {
			x := grown(t, s, depth)
			has(t, "grown", x, s, refs(numbers(1<<depth)...))
			for _, slot := range []int{math.MinInt, -1 << 32, -2, -1, 1 << depth, 1<<depth + 1, 256, 1 << 32, math.MaxInt} {
				if r, e := x.Get(slot); e != api.ErrRange || r != (super.Ref{}) {
					t.Errorf("Get(%d): %v, error %d", slot, r, e)
				}
			}
			own, _ := x.Pages()
			for _, r := range own {
				need(t, "Free", s.Free(r), api.OK)
			}
		}
	}
}

// P15.2: ErrForm of a root, or of a page, that is none of so many references.
func TestForm(t *testing.T) {
	wrong := func(row []super.Ref) [][]byte {
		right := load(row...)
		less, more := right[:len(right)-12], append(slices.Clone(right), load(ref(1))...)
		if len(more) > 96-19 {
			more = nil
		}
		list := [][]byte{nil, {0}, right[:len(right)-1], right[1:], less, more, append(slices.Clone(right), 0), append([]byte{0}, right...)}
		for place := range row {
			high := slices.Clone(right)
			high[12*place+3] |= 0x80
			list = append(list, high)
			high = slices.Clone(right)
			high[12*place+11] |= 0x80
			list = append(list, high)
		}
		return slices.DeleteFunc(list, func(b []byte) bool { return len(b) > 96-19 })
	}
	for depth := 1; depth < 5; depth++ {
		all := refs(numbers(1 << depth)...)
		_, s := stored(t, deep)
		x := grown(t, s, depth)
		own, _ := x.Pages()
		try := func(name string, at int, row []super.Ref, slots func(slot int) bool) {
			for _, b := range wrong(row) {
				if r, e := s.Write(own[at], b); e != api.OK || r != own[at] {
					t.Fatal("the page does not stay")
				}
				errs(t, name, x, api.ErrForm)
				for slot := range all {
					if slots(slot) {
						slotErr(t, fmt.Sprint(name, " ", b), x, slot, api.ErrForm)
					}
				}
				if at == 0 {
					pagesErr(t, name, x, api.ErrForm)
				}
			}
			s.Write(own[at], load(row...))
			has(t, name, x, s, all)
		}
		try("root", 0, own[1:], func(int) bool { return true })
		for at, row := range slices.Collect(slices.Chunk(all, 6)) {
			try("page", 1+at, row, func(slot int) bool { return slot/6 == at })
		}
	}
}

// P15.2: the store's errors: of a root, or a page, that there is not, or that does
// not stand there with that stamp.
func TestStoreErrors(t *testing.T) {
	_, s := stored(t, deep)
	x := grown(t, s, 4)
	own, _ := x.Pages()
	for _, y := range []struct {
		r    super.Ref
		want api.Errno
	}{
		{super.Ref{Page: 188, Stamp: 1}, api.ErrRange},
		{super.Ref{Page: 1<<31 - 1, Stamp: 1}, api.ErrRange},
		{super.Ref{Page: own[2].Page, Stamp: 2}, api.ErrForm},
		{super.Ref{Page: 100, Stamp: 1}, api.ErrForm},
	} {
		o, e := Open(s, 4, y.r)
		need(t, "Open", e, api.OK)
		errs(t, "root", o, y.want)
		pagesErr(t, "root", o, y.want)
		slotErr(t, "root", o, 7, y.want)
		row := slices.Clone(own[1:])
		row[1] = y.r
		s.Write(own[0], load(row...))
		errs(t, "page", x, y.want)
		for slot := 6; slot < 12; slot++ {
			slotErr(t, "page", x, slot, y.want)
		}
		s.Write(own[0], load(own[1:]...))
	}
	o, _ := Open(s, 4, super.Ref{Page: -1})
	errs(t, "below 0", o, api.ErrRange)
	has(t, "still", x, s, refs(numbers(16)...))
}

// P15.2: the device's error, where a page is to be read that is not in memory.
func TestDown(t *testing.T) {
	d, s := stored(t, deep)
	x := grown(t, s, 4)
	own, _ := x.Pages()
	kept(t, d, s)
	for at := range own {
		o, e := store.Open(d, deep, 1)
		need(t, "Open", e, api.OK)
		y, e := Open(o, 4, x.Root())
		need(t, "Open", e, api.OK)
		for other, r := range own {
			if other != at {
				o.Read(r)
			}
		}
		down(d)
		errs(t, "down", y, api.ErrDown)
		for slot := range 16 {
			if at == 0 || 1+slot/6 == at {
				slotErr(t, "down", y, slot, api.ErrDown)
			} else if r, e := y.Get(slot); e != api.OK || r != ref(slot) {
				t.Errorf("Get(%d): %v, error %d", slot, r, e)
			}
		}
		d.Crash(nil)
	}
}

// P15.2: the store's error counts ahead of ErrForm, wherever it is.
func TestStoreErrorFirst(t *testing.T) {
	for at := range 3 {
		_, s := stored(t, deep)
		x := grown(t, s, 4)
		own, _ := x.Pages()
		row := slices.Clone(own[1:])
		row[at] = super.Ref{Page: 188, Stamp: 1}
		s.Write(own[0], load(row...))
		for other := range 3 {
			if other != at {
				s.Write(own[1+other], []byte{7})
			}
		}
		errs(t, "both", x, api.ErrRange)
		for _, slots := range [][]int{{0, 6, 12}, {12, 6, 0}, {7, 1, 15}} {
			need(t, "both", x.Set(slots, ref(99)), api.ErrRange)
		}
	}
}

// P15.2: only the pages that are asked for are looked at: another one that is
// none, or can't be read, does no harm.
func TestLooksWhereAsked(t *testing.T) {
	for at := range 3 {
		for _, far := range []bool{false, true} {
			_, s := stored(t, deep)
			x := grown(t, s, 4)
			own, _ := x.Pages()
			want := slices.Clone(own)
			if far {
				want[1+at] = super.Ref{Page: 999, Stamp: 1}
				s.Write(own[0], load(want[1:]...))
			} else {
				s.Write(own[1+at], nil)
			}
			if l, e := x.Pages(); e != api.OK || !slices.Equal(l, want) {
				t.Errorf("Pages: %v, error %d, want %v", l, e, want)
			}
			var others []int
			for slot := range 16 {
				if slot/6 == at {
					continue
				}
				others = append(others, slot)
				if r, e := x.Get(slot); e != api.OK || r != ref(slot) {
					t.Errorf("Get(%d): %v, error %d", slot, r, e)
				}
			}
			need(t, "Set", x.Set(others, ref(40)), api.OK)
			for _, slot := range others {
				if r, e := x.Get(slot); e != api.OK || r != ref(40) {
					t.Errorf("Get(%d): %v, error %d", slot, r, e)
				}
			}
		}
	}
}

// P15.2: slots that are set have what they were given, and no other one; a slot
// may be named twice, in any order, and none may be.
func TestSet(t *testing.T) {
	for _, p := range plans {
		_, s := stored(t, p)
		random := rand.New(rand.NewPCG(1, uint64(p.Size)))
		for depth := range p.Depth + 1 {
			x := grown(t, s, depth)
			want := refs(numbers(1 << depth)...)
			for step := range 30 {
				var slots []int
				for range random.IntN(6) {
					slots = append(slots, random.IntN(1<<depth))
				}
				r := ref(random.IntN(1 << 20))
				if step < len(edgeRefs) {
					r = edgeRefs[step]
				}
				before := slices.Clone(slots)
				need(t, "Set", x.Set(slots, r), api.OK)
				if !slices.Equal(slots, before) {
					t.Fatal("what was handed in was changed")
				}
				for _, slot := range slots {
					want[slot] = r
				}
				has(t, "set", x, s, want)
			}
			all := append(numbers(1<<depth), 0, 0, 1<<depth-1)
			need(t, "Set", x.Set(all, ref(3)), api.OK)
			has(t, "all", x, s, slices.Repeat(refs(3), 1<<depth))
			own, _ := x.Pages()
			for _, r := range own {
				need(t, "Free", s.Free(r), api.OK)
			}
		}
	}
}

// P15.2: ErrArg of a reference that may not be ahead of ErrRange of a slot that
// there is not; ErrRange, wherever that one stands; nothing is done then, and
// nothing is looked at.
func TestSetWrong(t *testing.T) {
	_, s, x, was := twin(t, deep, func(_ *flash.Device, s *store.Store) *Dir { return grown(t, s, 4) })
	for _, r := range wrongRefs {
		for _, slots := range [][]int{nil, {0}, {16}, {-1, 3}} {
			need(t, "reference", x.Set(slots, r), api.ErrArg)
		}
	}
	for _, slot := range []int{math.MinInt, -1, 16, 17, 32, 1 << 32, math.MaxInt} {
		for _, slots := range [][]int{{slot}, {slot, 2}, {2, slot}, {1, 2, slot, 3, 4}, {slot, slot}} {
			need(t, "slot", x.Set(slots, ref(5)), api.ErrRange)
		}
	}
	same(t, "wrong", s, was)
	has(t, "still", x, s, refs(numbers(16)...))
	o, _ := Open(s, 4, super.Ref{Page: -1})
	need(t, "ahead of the store's", o.Set([]int{16}, ref(5)), api.ErrRange)
	need(t, "ahead of the store's", o.Set([]int{1}, wrongRefs[0]), api.ErrArg)
	if _, e := o.Get(16); e != api.ErrRange {
		t.Errorf("Get: error %d", e)
	}
}

// P15.2: behind ErrForm of one of the pages none of the slots is set.
func TestSetFormChangesNothing(t *testing.T) {
	for at := range 3 {
		_, s, x, was := twin(t, deep, func(d *flash.Device, s *store.Store) *Dir {
			x := grown(t, s, 4)
			own, _ := x.Pages()
			s.Write(own[1+at], []byte{7})
			kept(t, d, s)
			return x
		})
		for _, slots := range [][]int{{0, 6, 12}, {12, 6, 0}} {
			need(t, "Set", x.Set(slots, ref(9)), api.ErrForm)
		}
		need(t, "Double", x.Double(), api.ErrForm)
		if !reflect.DeepEqual(s.Parts(), was.Parts()) || x.Depth() != 4 {
			t.Errorf("%+v, was %+v", s.Parts(), was.Parts())
		}
		for slot := range 16 {
			if r, e := x.Get(slot); slot/6 != at && (e != api.OK || r != ref(slot)) {
				t.Errorf("Get(%d): %v, error %d", slot, r, e)
			}
		}
	}
}

// P15.2: what is changed is written, and the root, each made anew behind a commit,
// and the old ones are dying; what stays as it is, is not.
func TestSetWritesWhatIsChanged(t *testing.T) {
	for _, y := range []struct {
		slots []int
		r     super.Ref
		pages []int // the pages of references that are changed
	}{
		{nil, ref(9), nil},
		{[]int{3}, ref(3), nil},
		{[]int{0}, ref(9), []int{0}},
		{[]int{5, 5, 0}, ref(9), []int{0}},
		{[]int{6}, ref(9), []int{1}},
		{[]int{15, 12}, ref(9), []int{2}},
		{[]int{5, 6}, ref(9), []int{0, 1}},
		{[]int{12, 3}, ref(3), []int{2}},
		{[]int{13, 7, 1}, ref(9), []int{0, 1, 2}},
	} {
		d, s := stored(t, deep)
		x := grown(t, s, 4)
		want := refs(numbers(16)...)
		kept(t, d, s)
		was, _ := x.Pages()
		var dying []int
		need(t, "Set", x.Set(y.slots, y.r), api.OK)
		now, _ := x.Pages()
		for at, r := range was {
			changed := slices.Contains(y.pages, at-1) || at == 0 && y.pages != nil
			if changed {
				dying = append(dying, r.Page)
			}
			if changed == (now[at] == r) || changed && now[at].Stamp != 2 {
				t.Errorf("Set(%d): page %d is %v, was %v", y.slots, at, now[at], r)
			}
		}
		slices.Sort(dying)
		if parts := s.Parts(); !slices.Equal(parts.Dying, dying) || len(parts.Fresh) != len(dying) {
			t.Errorf("Set(%d): %+v, want %d to be dying", y.slots, parts, dying)
		}
		for _, slot := range y.slots {
			want[slot] = y.r
		}
		has(t, "set", x, s, want)
		old, e := Open(s, 4, was[0])
		need(t, "Open", e, api.OK)
		has(t, "the old one", old, s, refs(numbers(16)...))
		acts, now := d.Acts(), slices.Clone(now)
		need(t, "Flush", s.Flush(), api.OK)
		if d.Acts() != acts+len(dying) {
			t.Errorf("Set(%d): %d writes", y.slots, d.Acts()-acts)
		}
		stay := slices.DeleteFunc(slices.Clone(y.slots), func(slot int) bool { return !slices.Contains(y.pages, slot/6) })
		need(t, "again", x.Set(stay, ref(11)), api.OK)
		if again, _ := x.Pages(); !slices.Equal(again, now) {
			t.Errorf("Set(%d): fresh pages do not stay: %v, were %v", y.slots, again, now)
		}
	}
}

// P15.2: the store's ErrFull, where there is no room for what is made anew; what
// stays where it is needs none. Nothing is changed then.
func TestSetFull(t *testing.T) {
	for left := range 5 {
		fill := func(slots ...int) func(d *flash.Device, s *store.Store) *Dir {
			return func(d *flash.Device, s *store.Store) *Dir {
				x := grown(t, s, 4)
				kept(t, d, s)
				need(t, "Set", x.Set(slots, ref(50)), api.OK)
				for range 188 - len(s.Parts().Taken) - left {
					s.New(nil)
				}
				return x
			}
		}
		try := func(name string, fresh, slots []int, makes int) {
			t.Helper()
			_, s, x, was := twin(t, deep, fill(fresh...))
			want := refs(numbers(16)...)
			for _, slot := range fresh {
				want[slot] = ref(50)
			}
			e := x.Set(slots, ref(60))
			if left >= makes {
				need(t, name, e, api.OK)
				for _, slot := range slots {
					want[slot] = ref(60)
				}
			} else {
				need(t, name, e, api.ErrFull)
				if !reflect.DeepEqual(s.Parts(), was.Parts()) {
					t.Errorf("%s: %+v, was %+v", name, s.Parts(), was.Parts())
				}
			}
			has(t, name, x, s, want)
		}
		try("nothing", nil, nil, 0)
		try("none fresh", nil, []int{1}, 2)
		try("none fresh", nil, []int{1, 12}, 3)
		try("none fresh", nil, []int{1, 7, 13}, 4)
		try("all fresh", []int{1}, []int{2}, 0)
		try("all fresh", []int{1, 13}, []int{2, 14, 3}, 0)
		try("some fresh", []int{1}, []int{2, 14}, 1)
		try("some fresh", []int{1}, []int{13}, 1)
		try("some fresh", []int{7}, []int{13, 8, 0}, 2)
	}
}

// P15.2: a directory that is doubled has one more depth, and the slots 2 n and
// 2 n + 1 have what n had; ErrFull at the plan's depth, ahead of all else.
func TestDouble(t *testing.T) {
	for _, p := range plans {
		d, s := stored(t, p)
		for start := range p.Depth + 1 {
			x := grown(t, s, start)
			want := refs(numbers(1 << start)...)
			for depth := start; depth < p.Depth; depth++ {
				if start%2 == 0 {
					kept(t, d, s)
				}
				before := x.Root()
				need(t, "Double", x.Double(), api.OK)
				var twice []super.Ref
				for _, r := range want {
					twice = append(twice, r, r)
				}
				want = twice
				has(t, "doubled", x, s, want)
				if (x.Root() != before) != (start%2 == 0) {
					t.Errorf("root %v, was %v", x.Root(), before)
				}
			}
			for range 2 {
				need(t, "the plan's depth", x.Double(), api.ErrFull)
				has(t, "the plan's depth", x, s, want)
			}
			own, _ := x.Pages()
			for _, r := range own {
				need(t, "Free", s.Free(r), api.OK)
			}
		}
		o, _ := Open(s, p.Depth, super.Ref{Page: -1})
		need(t, "ahead of the store's", o.Double(), api.ErrFull)
	}
}

// P15.2: what is doubled is made anew behind a commit, where it is changed; what
// is more is made, and what is fresh stays where it is.
func TestDoubleWrites(t *testing.T) {
	for _, y := range []struct {
		name        string
		depth       int
		differ      bool
		fresh, died int
	}{
		{"one page stays one", 1, true, 2, 2},
		{"one page becomes two", 2, true, 3, 2},
		{"two become three", 3, true, 4, 3},
		{"three become six", 4, true, 7, 4},
		{"a full one of the same references", 3, false, 3, 2},
		{"full ones of the same references", 4, false, 5, 2},
	} {
		d, s := stored(t, deep)
		x := grown(t, s, y.depth)
		want := refs(numbers(1 << y.depth)...)
		if !y.differ {
			want = slices.Repeat(refs(4), 1<<y.depth)
			need(t, "Set", x.Set(numbers(1<<y.depth), ref(4)), api.OK)
		}
		kept(t, d, s)
		need(t, "Double", x.Double(), api.OK)
		if parts := s.Parts(); len(parts.Fresh) != y.fresh || len(parts.Dying) != y.died {
			t.Errorf("%s: %+v, want %d fresh ones, %d dying", y.name, parts, y.fresh, y.died)
		}
		for slot := range 2 << y.depth {
			if r, e := x.Get(slot); e != api.OK || r != want[slot/2] {
				t.Errorf("%s: Get(%d): %v, error %d", y.name, slot, r, e)
			}
		}
	}
}

// P15.2: the store's ErrFull, where there is no room for what is more, or made
// anew. Nothing is changed then.
func TestDoubleNoRoom(t *testing.T) {
	for depth := range 5 {
		for _, fresh := range []bool{false, true} {
			rows, more := (1<<depth+5)/6, (2<<depth+5)/6-(1<<depth+5)/6
			makes := more
			if !fresh {
				makes += rows + 1
			}
			for left := range makes + 2 {
				_, s, x, was := twin(t, deep, func(d *flash.Device, s *store.Store) *Dir {
					x := grown(t, s, depth)
					if !fresh {
						kept(t, d, s)
					}
					for range 188 - len(s.Parts().Taken) - left {
						s.New(nil)
					}
					return x
				})
				e := x.Double()
				if left >= makes {
					need(t, "room", e, api.OK)
					if x.Depth() != depth+1 || len(s.Parts().Taken) != 188-left+makes {
						t.Errorf("depth %d, %d taken", x.Depth(), len(s.Parts().Taken))
					}
					continue
				}
				need(t, "no room", e, api.ErrFull)
				if !reflect.DeepEqual(s.Parts(), was.Parts()) {
					t.Errorf("%+v, was %+v", s.Parts(), was.Parts())
				}
				has(t, "no room", x, s, refs(numbers(1<<depth)...))
			}
		}
	}
}

// P15.2: the store's error of a page that is none of its: it is not taken.
func TestNotTaken(t *testing.T) {
	d, s := stored(t, deep)
	x := grown(t, s, 2)
	kept(t, d, s)
	o, e := store.Open(d, deep, 1)
	need(t, "Open", e, api.OK)
	y, e := Open(o, 2, x.Root())
	need(t, "Open", e, api.OK)
	has(t, "not taken", y, o, refs(numbers(4)...))
	need(t, "Set", y.Set([]int{1}, ref(9)), api.ErrNone)
	need(t, "Double", y.Double(), api.ErrNone)
	if y.Root() != x.Root() || y.Depth() != 2 {
		t.Errorf("root %v, depth %d", y.Root(), y.Depth())
	}
}

// P15.2: the device's error, where a page goes out of memory for one that is
// written, or made, whichever of them it is: OK is told only of what was done.
func TestWriteDown(t *testing.T) {
	for name, y := range map[string]struct {
		depth int
		do    func(x *Dir) api.Errno
		want  []super.Ref
	}{
		"Set":       {2, func(x *Dir) api.Errno { return x.Set([]int{1}, ref(9)) }, refs(0, 9, 2, 3)},
		"Set, two":  {3, func(x *Dir) api.Errno { return x.Set([]int{1, 7}, ref(9)) }, refs(0, 9, 2, 3, 4, 5, 6, 9)},
		"Double":    {1, (*Dir).Double, refs(0, 0, 1, 1)},
		"Double, 2": {2, (*Dir).Double, refs(0, 0, 1, 1, 2, 2, 3, 3)},
	} {
		seen := map[api.Errno]int{}
		for turn := range 12 {
			d, s := stored(t, deep)
			x := grown(t, s, y.depth)
			oneDirty(t, d, s, turn)
			x.All()
			down(d)
			e := y.do(x)
			seen[e]++
			d.Crash(nil)
			if e == api.OK {
				has(t, name, x, s, y.want)
			}
		}
		if len(seen) != 2 || seen[api.OK] == 0 || seen[api.ErrDown] < 2 {
			t.Errorf("%s: errors %v", name, seen)
		}
	}
}

// oneDirty lets memory be full, and one page in it be dirty; the next one that
// goes out is another one at each turn.
func oneDirty(t *testing.T, d *flash.Device, s *store.Store, turn int) {
	t.Helper()
	var others []super.Ref
	for range 12 {
		r, e := s.New([]byte{3})
		need(t, "New", e, api.OK)
		others = append(others, r)
	}
	kept(t, d, s)
	for _, r := range others[4:] {
		s.Read(r)
	}
	_, e := s.New([]byte{4})
	need(t, "New", e, api.OK)
	for _, r := range others[:turn] {
		s.Read(r)
	}
}

// P15.2: what is handed out is new memory.
func TestHandedOut(t *testing.T) {
	_, s := stored(t, deep)
	x := grown(t, s, 4)
	for range 2 {
		for _, ask := range []func() ([]super.Ref, api.Errno){x.All, x.Pages} {
			list, e := ask()
			need(t, "asked", e, api.OK)
			before := slices.Clone(list)
			clear(list)
			list = append(list, ref(3))
			if again, _ := ask(); !slices.Equal(again, before) {
				t.Fatalf("%v, was %v", again, before)
			}
		}
	}
	slots := append(make([]int, 0, 9), 4, 2)
	need(t, "Set", x.Set(slots, ref(30)), api.OK)
	if !slices.Equal(slots[:9], []int{4, 2, 0, 0, 0, 0, 0, 0, 0}) {
		t.Errorf("what was handed in was changed: %d", slots[:9])
	}
}

// P15.3: a directory that is opened by its depth and root has the same slots, by
// the same store, and by one that is opened behind a commit; and what it had at
// the commit ahead of that can still be opened by its root.
func TestOpened(t *testing.T) {
	for _, p := range plans {
		d, s := stored(t, p)
		for depth := range p.Depth + 1 {
			x := grown(t, s, depth)
			want := refs(numbers(1 << depth)...)
			kept(t, d, s)
			old, oldWant := x.Root(), slices.Clone(want)
			need(t, "Set", x.Set([]int{1<<depth - 1, 0}, ref(100)), api.OK)
			want[0], want[1<<depth-1] = ref(100), ref(100)
			y, e := Open(s, depth, x.Root())
			need(t, "Open", e, api.OK)
			has(t, "opened", y, s, want)
			kept(t, d, s)
			o, e := store.Open(d, p, s.Gen()-1)
			need(t, "Open", e, api.OK)
			y, e = Open(o, depth, x.Root())
			need(t, "Open", e, api.OK)
			has(t, "opened behind a commit", y, o, want)
			y, e = Open(o, depth, old)
			need(t, "Open", e, api.OK)
			has(t, "the one ahead", y, o, oldWant)
			own, _ := x.Pages()
			for _, r := range own {
				need(t, "Free", s.Free(r), api.OK)
			}
			kept(t, d, s)
			kept(t, d, s)
		}
	}
}

// walk does something by chance to a directory and to what it should have.
func walk(t *testing.T, random *rand.Rand, x *Dir, want []super.Ref) ([]super.Ref, api.Errno) {
	t.Helper()
	if random.IntN(8) == 0 {
		e := x.Double()
		var twice []super.Ref
		for _, r := range want {
			twice = append(twice, r, r)
		}
		return twice, e
	}
	var slots []int
	for range random.IntN(4) {
		slots = append(slots, random.IntN(len(want)))
	}
	r := ref(random.IntN(40))
	want = slices.Clone(want)
	for _, slot := range slots {
		want[slot] = r
	}
	return want, x.Set(slots, r)
}

// P15.2, P15.3, P3: whatever is done, one behind the other, with commits between,
// the slots have what they were given last; its pages, those that are dying and
// those that are dead are all that are taken; and three trees' pages are enough.
func TestWalk(t *testing.T) {
	for _, p := range plans {
		for seed := range uint64(12) {
			random := rand.New(rand.NewPCG(seed, uint64(p.Size)))
			d, s := stored(t, p)
			x := made(t, s)
			want := refs(0)
			for step := range 150 {
				next, e := walk(t, random, x, want)
				switch {
				case e == api.OK:
					want = next
				case e != api.ErrFull || x.Depth() != p.Depth || len(next) == len(want):
					t.Fatalf("step %d: error %d", step, e)
				}
				has(t, "walked", x, s, want)
				own, _ := x.Pages()
				parts := s.Parts()
				all := slices.Concat(parts.Dying, parts.Dead)
				for _, r := range own {
					all = append(all, r.Page)
				}
				slices.Sort(all)
				if !slices.Equal(all, parts.Taken) {
					t.Fatalf("step %d: %+v, pages %v", step, parts, own)
				}
				if random.IntN(3) == 0 {
					kept(t, d, s)
				}
				if random.IntN(9) == 0 {
					x, e = Open(s, x.Depth(), x.Root())
					need(t, "Open", e, api.OK)
				}
			}
		}
	}
}

// P15.3: wherever the device goes down, whatever a crash lets be done, the
// directory of the last commit is opened by its depth and root, and goes on.
func TestCrash(t *testing.T) {
	for seed := range uint64(400) {
		random := rand.New(rand.NewPCG(seed, 5))
		p := []plan.Plan{deep, odd}[seed%2]
		d, s := stored(t, p)
		x := grown(t, s, random.IntN(4))
		want := refs(numbers(1 << x.Depth())...)
		for round := range 3 {
			kept(t, d, s)
			depth, root, gen, then := x.Depth(), x.Root(), s.Gen()-1, want
			d.Arm(1 + random.IntN(12))
			for !d.Down() {
				next, e := walk(t, random, x, want)
				if e == api.OK {
					want = next
				}
				if random.IntN(4) == 0 {
					s.Flush()
				}
			}
			var fates []int
			for range d.Loose() {
				fates = append(fates, random.IntN(p.Size+1))
			}
			d.Crash(fates)
			var e api.Errno
			s, e = store.Open(d, p, gen)
			need(t, "Open", e, api.OK)
			x, e = Open(s, depth, root)
			need(t, "Open", e, api.OK)
			has(t, fmt.Sprint("round ", round), x, s, then)
			own, _ := x.Pages()
			for _, r := range own {
				need(t, "Mark", s.Mark(r), api.OK)
			}
			want = then
		}
	}
}
