package wheel

import (
	"math"
	"math/rand/v2"
	"slices"
	"sort"
	"testing"

	"sgraffito/api"
)

// need holds what was told to what should be.
func need[T comparable](t *testing.T, name string, got, want T) {
	t.Helper()
	if got != want {
		t.Fatalf("%s: %v, want %v", name, got, want)
	}
}

// list holds a list to what should stand in it.
func list(t *testing.T, name string, got []Due, want ...Due) {
	t.Helper()
	if !slices.Equal(got, want) {
		t.Fatalf("%s: %v, want %v", name, got, want)
	}
}

// puts holds Put to an error.
func puts(t *testing.T, w *Wheel, number, at int, want api.Errno) {
	t.Helper()
	if e := w.Put(number, at); e != want {
		t.Fatalf("at %d: Put(%d, %d): error %d, want %d", w.Time(), number, at, e, want)
	}
}

// goes holds Go to what is due.
func goes(t *testing.T, w *Wheel, ticks int, want ...Due) {
	t.Helper()
	l, e := w.Go(ticks)
	need(t, "the error of Go", e, api.OK)
	list(t, "due", l, want...)
}

// at tells a wheel whose time is that, without things.
func at(t *testing.T, time int) *Wheel {
	t.Helper()
	w := New()
	goes(t, w, time)
	need(t, "Time", w.Time(), time)
	return w
}

// worded is a wheel as the chapter words it: a time, and things in no order.
type worded struct {
	time int
	when map[int]int
}

func newWorded() *worded { return &worded{when: map[int]int{}} }

func (w *worded) put(number, at int) api.Errno {
	if at <= w.time || at > 1<<48 {
		return api.ErrRange
	}
	w.when[number] = at
	return api.OK
}

func (w *worded) drop(number int) (int, bool) {
	at, was := w.when[number]
	delete(w.when, number)
	return at, was
}

// all tells the things of which the time is not above one, in order.
func (w *worded) all(till int) []Due {
	var l []Due
	for number, at := range w.when {
		if at <= till {
			l = append(l, Due{Number: number, At: at})
		}
	}
	sort.Slice(l, func(i, j int) bool {
		if l[i].At == l[j].At {
			return l[i].Number < l[j].Number
		}
		return l[i].At < l[j].At
	})
	return l
}

func (w *worded) goOn(ticks int) ([]Due, api.Errno) {
	if ticks < 0 || ticks > 1<<48-w.time {
		return nil, api.ErrRange
	}
	w.time += ticks
	l := w.all(w.time)
	for _, x := range l {
		delete(w.when, x.Number)
	}
	return l, api.OK
}

// like holds a wheel to a worded one.
func like(t *testing.T, w *Wheel, o *worded) {
	t.Helper()
	need(t, "Time", w.Time(), o.time)
	need(t, "Len", w.Len(), len(o.when))
	all := o.all(math.MaxInt)
	list(t, "All", w.All(), all...)
	x, is := w.Next()
	need(t, "is there a next one", is, len(all) > 0)
	if len(all) > 0 {
		need(t, "Next", x, all[0])
	} else {
		need(t, "Next", x, Due{})
	}
}

// edges tells times at which digits of times change, and some about them.
func edges() []int {
	l := []int{0, 1, 2, 5, 62, 127, 128, 1000, 5000}
	for bits := 6; bits <= 48; bits += 6 {
		for _, d := range []int{-65, -64, -63, -2, -1, 0, 1, 2, 63, 64, 65} {
			l = append(l, 1<<bits+d, 3<<(bits-1)+d, 63<<bits+d)
		}
	}
	l = slices.DeleteFunc(l, func(n int) bool { return n < 0 || n > api.MaxClock })
	slices.Sort(l)
	return slices.Compact(l)
}

// P24.1: a new wheel has the time 0, and nothing.
func TestNew(t *testing.T) {
	w := New()
	like(t, w, newWorded())
	goes(t, w, 0)
	at, was := w.Drop(0)
	need(t, "Drop", at, 0)
	need(t, "was it there", was, false)
	puts(t, w, 1, 1, api.OK)
	like(t, New(), newWorded())
}

// P24.1: the chapter's example.
func TestExample(t *testing.T) {
	w := New()
	puts(t, w, 1, 5, api.OK)
	puts(t, w, 2, 3, api.OK)
	goes(t, w, 4, Due{2, 3})
	goes(t, w, 1, Due{1, 5})
}

// P24.1: a time that is not above the time, or above MaxClock, may not be; nothing
// is changed by it.
func TestPutRange(t *testing.T) {
	for _, time := range edges() {
		w, o := at(t, time), newWorded()
		o.time = time
		for i, n := range []int{math.MinInt, -1 << 48, -1, 0, time - 1, time, api.MaxClock + 1, 1 << 54, math.MaxInt} {
			puts(t, w, i, n, api.ErrRange)
			like(t, w, o)
		}
		if time == api.MaxClock {
			continue
		}
		puts(t, w, 3, api.MaxClock, o.put(3, api.MaxClock))
		puts(t, w, 4, time+1, o.put(4, time+1))
		like(t, w, o)
		for i, n := range []int{math.MinInt, -1, 0, time, api.MaxClock + 1, math.MaxInt} {
			puts(t, w, i, n, api.ErrRange)
			like(t, w, o)
		}
	}
}

// P24.1: any number may be put, and is there once: put again, it has another time,
// earlier or later.
func TestPutAgain(t *testing.T) {
	numbers := []int{math.MinInt, -1 << 48, -2, -1, 0, 1, 2, 1 << 32, math.MaxInt}
	for _, second := range edges() {
		if second == 0 {
			continue
		}
		w, o := New(), newWorded()
		for i, number := range numbers {
			puts(t, w, number, 70+i, o.put(number, 70+i))
		}
		for _, number := range numbers {
			puts(t, w, number, second, o.put(number, second))
			like(t, w, o)
		}
		need(t, "Len", w.Len(), len(numbers))
		goes(t, w, second-1)
		l, e := w.Go(1)
		need(t, "the error", e, api.OK)
		want, _ := o.goOn(second)
		list(t, "due, by their numbers", l, want...)
		goes(t, w, api.MaxClock-second)
	}
}

// P24.1: what is dropped is not there any more, is not due, and may be put again;
// of what is not there Drop tells 0 and false.
func TestDrop(t *testing.T) {
	for _, due := range edges() {
		if due == 0 {
			continue
		}
		w := New()
		puts(t, w, 1, due, api.OK)
		puts(t, w, 2, due, api.OK)
		n, was := w.Drop(3)
		need(t, "when it was due", n, 0)
		need(t, "was it there", was, false)
		n, was = w.Drop(1)
		need(t, "when it was due", n, due)
		need(t, "was it there", was, true)
		n, was = w.Drop(1)
		need(t, "when it was due", n, 0)
		need(t, "was it there", was, false)
		list(t, "All", w.All(), Due{2, due})
		goes(t, w, due, Due{2, due})
		n, was = w.Drop(2)
		need(t, "when it was due", n, 0)
		need(t, "was it there", was, false)
		need(t, "Len", w.Len(), 0)
		if due < api.MaxClock {
			puts(t, w, 1, due+1, api.OK)
			goes(t, w, 1, Due{1, due + 1})
		}
	}
}

// P24.1: from each time a thing of each later time is due then, not a tick
// earlier, whether time stopped in between or not.
func TestDueThen(t *testing.T) {
	for _, from := range edges() {
		for _, due := range edges() {
			if due <= from {
				continue
			}
			w := at(t, from)
			puts(t, w, 7, due, api.OK)
			x, is := w.Next()
			need(t, "is there a next one", is, true)
			need(t, "Next", x, Due{7, due})
			goes(t, w, (due-from)/3)
			goes(t, w, 0)
			goes(t, w, due-1-w.Time())
			x, _ = w.Next()
			need(t, "Next", x, Due{7, due})
			list(t, "All", w.All(), Due{7, due})
			goes(t, w, 1, Due{7, due})
			need(t, "Len", w.Len(), 0)
			list(t, "All", w.All())
			goes(t, w, api.MaxClock-due)

			w = at(t, from)
			puts(t, w, 7, due, api.OK)
			goes(t, w, api.MaxClock-from, Due{7, due})
		}
	}
}

// P24.1: from each time on the things of all later times are told in order, and
// are due one behind the other.
func TestAllTimes(t *testing.T) {
	times := edges()
	for _, from := range times {
		w := at(t, from)
		var want []Due
		for i, due := range times {
			if due > from {
				puts(t, w, 1000-i, due, api.OK)
				want = append(want, Due{1000 - i, due})
			}
		}
		for len(want) > 0 {
			list(t, "All", w.All(), want...)
			x, is := w.Next()
			need(t, "is there a next one", is, true)
			need(t, "Next", x, want[0])
			goes(t, w, x.At-w.Time(), x)
			want = want[1:]
		}
	}
}

// P24.1: ticks below 0, and such that the time would be above MaxClock, may not
// be; nothing is changed by them.
func TestGoRange(t *testing.T) {
	for _, time := range edges() {
		w, o := at(t, time), newWorded()
		o.time = time
		if time < api.MaxClock {
			puts(t, w, 1, time+1, o.put(1, time+1))
		}
		for _, ticks := range []int{math.MinInt, -1 << 48, -2, -1, api.MaxClock - time + 1, api.MaxClock + 1, math.MaxInt - time, math.MaxInt} {
			l, e := w.Go(ticks)
			need(t, "the error", e, api.ErrRange)
			list(t, "beside it", l)
			like(t, w, o)
		}
	}
}

// P24.1: things of one time are told by their numbers, however many there are, and
// in whichever order they were put.
func TestOneTime(t *testing.T) {
	random := rand.New(rand.NewPCG(1, 24))
	for _, due := range []int{1, 64, 4097, 1<<36 + 1, 1 << 47} {
		w := New()
		var want []Due
		for _, number := range random.Perm(500) {
			puts(t, w, number-250, due, api.OK)
		}
		for number := range 500 {
			want = append(want, Due{number - 250, due})
		}
		list(t, "All", w.All(), want...)
		x, _ := w.Next()
		need(t, "Next", x, want[0])
		goes(t, w, due-1)
		list(t, "All", w.All(), want...)
		goes(t, w, 1, want...)
		need(t, "Len", w.Len(), 0)
	}
}

// P24.1: of nil ErrArg, 0, false, none.
func TestNil(t *testing.T) {
	var w *Wheel
	need(t, "Put", w.Put(1, 5), api.ErrArg)
	need(t, "Put of a time that may not be", w.Put(1, -5), api.ErrArg)
	at, was := w.Drop(1)
	need(t, "Drop", at, 0)
	need(t, "Drop", was, false)
	for _, ticks := range []int{-1, 0, 1, math.MaxInt} {
		l, e := w.Go(ticks)
		need(t, "Go", e, api.ErrArg)
		list(t, "Go", l)
	}
	x, is := w.Next()
	need(t, "Next", x, Due{})
	need(t, "Next", is, false)
	need(t, "Time", w.Time(), 0)
	need(t, "Len", w.Len(), 0)
	list(t, "All", w.All())
}

// far tells a number of ticks from 0 on, of any size.
func far(random *rand.Rand) int { return random.IntN(1<<48) >> random.IntN(48) }

// soon tells a time that is mostly above one, mostly not far off, and often where
// digits change.
func soon(random *rand.Rand, time int) int {
	n := time + far(random)
	if random.IntN(2) == 0 {
		n = n>>(6*random.IntN(8))<<(6*random.IntN(8)) + random.IntN(3) - 1
	}
	return n
}

// P24.1: whatever is done, it goes as the chapter words it.
func TestWalk(t *testing.T) {
	for seed := range uint64(150) {
		random := rand.New(rand.NewPCG(seed, 24))
		w, o := New(), newWorded()
		room := 1 + random.IntN(60)
		for range 400 {
			number := random.IntN(room) - room/2
			switch random.IntN(8) {
			case 0:
				at, was := w.Drop(number)
				wantAt, wantWas := o.drop(number)
				need(t, "Drop", at, wantAt)
				need(t, "Drop", was, wantWas)
			case 1, 2:
				ticks := far(random) >> random.IntN(40)
				if x, is := w.Next(); is && random.IntN(2) == 0 {
					ticks = x.At - w.Time() + random.IntN(3) - 1
				}
				l, e := w.Go(ticks)
				want, wantErr := o.goOn(ticks)
				need(t, "the error of Go", e, wantErr)
				list(t, "due", l, want...)
			default:
				at := soon(random, o.time)
				puts(t, w, number, at, o.put(number, at))
			}
			like(t, w, o)
		}
	}
}

// P24.2: going on by two numbers of ticks, one behind the other, tells what going
// on by both together does.
func TestTwice(t *testing.T) {
	for seed := range uint64(300) {
		random := rand.New(rand.NewPCG(seed, 242))
		one, two := New(), New()
		for range 30 {
			for range random.IntN(40) {
				number, at := random.IntN(200), soon(random, one.Time())
				puts(t, two, number, at, one.Put(number, at))
			}
			both := far(random) >> random.IntN(40)
			if one.Time()+both > api.MaxClock {
				break
			}
			first := random.IntN(both + 1)
			l, e := one.Go(both)
			need(t, "the error", e, api.OK)
			a, e := two.Go(first)
			need(t, "the error of the first", e, api.OK)
			b, e := two.Go(both - first)
			need(t, "the error of the second", e, api.OK)
			list(t, "one behind the other", append(a, b...), l...)
			list(t, "what is left", two.All(), one.All()...)
			need(t, "Time", two.Time(), one.Time())
			need(t, "Len", two.Len(), one.Len())
		}
	}
}

// P24.2: tick by tick it tells what going on at once does.
func TestTickByTick(t *testing.T) {
	for _, from := range []int{0, 4000, 1<<18 - 3000, 1<<36 - 3000, api.MaxClock - 6000} {
		random := rand.New(rand.NewPCG(uint64(from), 243))
		one, two := at(t, from), at(t, from)
		for number := range 300 {
			due := from + 1 + random.IntN(6000)
			puts(t, one, number, due, api.OK)
			puts(t, two, number, due, api.OK)
		}
		var l []Due
		for range 6000 {
			some, e := one.Go(1)
			need(t, "the error", e, api.OK)
			for _, x := range some {
				need(t, "when it is told", x.At, one.Time())
			}
			l = append(l, some...)
		}
		goes(t, two, 6000, l...)
		need(t, "all are due", len(l), 300)
	}
}

// R4: what is handed out is new memory; one wheel is not another one.
func TestMemory(t *testing.T) {
	w, other := New(), New()
	for number := range 5 {
		puts(t, w, number, 10*number+10, api.OK)
	}
	need(t, "another wheel", other.Len(), 0)
	first, second := w.All(), w.All()
	for i := range first {
		first[i] = Due{9, 9}
	}
	_ = append(first[:2], Due{8, 8})
	list(t, "All", second, w.All()...)
	goes(t, w, 5)
	l, _ := w.Go(25)
	list(t, "due", l, Due{0, 10}, Due{1, 20}, Due{2, 30})
	for i := range l {
		l[i] = Due{7, 7}
	}
	_ = append(l, Due{6, 6})
	list(t, "what is left", w.All(), Due{3, 40}, Due{4, 50})
	goes(t, w, 20, Due{3, 40}, Due{4, 50})
}
