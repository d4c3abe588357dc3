package wire

import (
	"bytes"
	"math"
	"slices"
	"testing"
)

// widths are the counts of bytes that a number may have.
var widths = []int{1, 2, 4, 8}

// wrongWidths are some that it may not have.
var wrongWidths = []int{0, 3, 5, 6, 7, 9, 10, 16, 32, 64, 256, 258, -1, -2, -4, -8, math.MinInt, math.MaxInt}

// numbers tells numbers at the edges of each width, and some others.
func numbers() []uint64 {
	list := []uint64{0, 1, 255, 256, 258, 65535, 65536, 0x0123456789ABCDEF, 0xFEDCBA9876543210, math.MaxUint64}
	for i := range 64 {
		list = append(list, 1<<i, 1<<i-1)
	}
	return list
}

// lowest tells the bytes of a number, the lowest first, as the document words it.
func lowest(n uint64, width int) []byte {
	var b []byte
	for range width {
		b = append(b, byte(n%256))
		n /= 256
	}
	return b
}

// held tells a number modulo what so many bytes hold.
func held(n uint64, width int) uint64 {
	if width == 8 {
		return n
	}
	return n % (1 << (8 * width))
}

// some tells so many bytes that differ from one another.
func some(length int) []byte {
	b := make([]byte, length)
	n := uint32(length)*7919 + 17
	for i := range b {
		n = n*1664525 + 1013904223
		b[i] = byte(n >> 24)
	}
	return b
}

// written holds a writer to what it wrote, and to being full.
func written(t *testing.T, name string, w *Writer, want []byte, full bool) {
	t.Helper()
	if got := w.Bytes(); !bytes.Equal(got, want) {
		t.Errorf("%s: wrote %x, want %x", name, got, want)
	}
	if w.Full() != full {
		t.Errorf("%s: full is %v, want %v", name, w.Full(), full)
	}
}

// left holds a reader to what is left, and to being bad.
func left(t *testing.T, name string, r *Reader, want []byte, bad bool) {
	t.Helper()
	if got := r.Rest(); !bytes.Equal(got, want) {
		t.Errorf("%s: %x is left, want %x", name, got, want)
	}
	if r.Bad() != bad {
		t.Errorf("%s: bad is %v, want %v", name, r.Bad(), bad)
	}
}

// P3.1: a writer at first has nothing, whatever its limit, and is not full.
func TestNewWriter(t *testing.T) {
	for _, limit := range []int{0, 1, 5, -1, -5, math.MinInt, math.MaxInt} {
		written(t, "a new writer", NewWriter(limit), nil, false)
	}
}

// P3.1: a limit below 0 is 0: nothing goes in but nothing.
func TestLimitBelowNothing(t *testing.T) {
	for _, limit := range []int{0, -1, -2, -1000, math.MinInt} {
		w := NewWriter(limit)
		w.Raw(nil)
		written(t, "no bytes", w, nil, false)
		w.Raw([]byte{1})
		written(t, "a byte", w, nil, true)
	}
}

// P3.1: a number's bytes, the lowest first, modulo what they hold.
func TestWriteNumber(t *testing.T) {
	for _, width := range widths {
		for _, n := range numbers() {
			w := NewWriter(width)
			w.Number(n, width)
			written(t, "a number", w, lowest(n, width), false)
		}
	}
}

// P3.1: with another count of bytes the writer is full, for good.
func TestWriteNumberOfWrongWidth(t *testing.T) {
	for _, width := range wrongWidths {
		w := NewWriter(100)
		w.Raw([]byte{7})
		w.Number(1, width)
		written(t, "a wrong width", w, []byte{7}, true)
		w.Number(1, 1)
		w.Text(nil)
		w.Raw([]byte{1})
		w.Raw(nil)
		written(t, "behind a wrong width", w, []byte{7}, true)
	}
}

// P3.1: the document's first example, and texts of all lengths that count.
func TestWriteText(t *testing.T) {
	w := NewWriter(5)
	w.Number(258, 2)
	w.Text([]byte("a"))
	written(t, "the example", w, []byte{2, 1, 1, 0, 97}, false)
	for _, length := range []int{0, 1, 2, 255, 256, 257, 4096, 65534, 65535} {
		b := some(length)
		w := NewWriter(length + 2)
		w.Text(b)
		written(t, "a text", w, append(lowest(uint64(length), 2), b...), false)
	}
}

// P3.1: a text that is too long is not written, and the writer is full.
func TestWriteTextTooLong(t *testing.T) {
	for _, length := range []int{65536, 65537, 1 << 17} {
		w := NewWriter(math.MaxInt)
		w.Raw([]byte{7})
		w.Text(make([]byte, length))
		w.Raw([]byte{8})
		written(t, "a text that is too long", w, []byte{7}, true)
	}
}

// P3.1: bytes themselves, some or none.
func TestWriteRaw(t *testing.T) {
	w := NewWriter(300)
	w.Raw(nil)
	w.Raw([]byte{})
	written(t, "no bytes", w, nil, false)
	w.Raw([]byte{1, 0, 2})
	w.Raw(some(290))
	written(t, "bytes", w, append([]byte{1, 0, 2}, some(290)...), false)
}

// P3.1: what just goes in is written; a byte more, and nothing of it is, nor of
// what comes behind it, though it would go in.
func TestWriterAtItsLimit(t *testing.T) {
	for name, x := range map[string]struct {
		need int
		put  func(w *Writer)
	}{
		"one byte":    {1, func(w *Writer) { w.Number(9, 1) }},
		"two bytes":   {2, func(w *Writer) { w.Number(9, 2) }},
		"four bytes":  {4, func(w *Writer) { w.Number(9, 4) }},
		"eight bytes": {8, func(w *Writer) { w.Number(9, 8) }},
		"no text":     {2, func(w *Writer) { w.Text(nil) }},
		"a text":      {7, func(w *Writer) { w.Text([]byte("hello")) }},
		"raw":         {3, func(w *Writer) { w.Raw([]byte("hen")) }},
	} {
		for ahead := range 4 {
			w := NewWriter(ahead + x.need)
			w.Raw(some(ahead))
			x.put(w)
			if len(w.Bytes()) != ahead+x.need || w.Full() {
				t.Errorf("%s behind %d: what goes in is not written", name, ahead)
			}
			for room := range x.need {
				w := NewWriter(ahead + room)
				w.Raw(some(ahead))
				x.put(w)
				written(t, name+", too long", w, some(ahead), true)
				w.Raw(nil)
				w.Raw(make([]byte, min(room, 1)))
				w.Number(1, 1)
				written(t, name+", behind it", w, some(ahead), true)
			}
		}
	}
}

// P3.1: a writer that has just its limit is not full till something more comes.
func TestFullOnlyByMore(t *testing.T) {
	w := NewWriter(2)
	w.Number(1, 2)
	w.Raw(nil)
	written(t, "just the limit", w, []byte{1, 0}, false)
	w.Text(nil)
	written(t, "more", w, []byte{1, 0}, true)
}

// P3.1, P3.2: of nil nothing is written and read; it is full, and bad.
func TestNil(t *testing.T) {
	var w *Writer
	w.Number(1, 1)
	w.Number(1, 3)
	w.Text([]byte("a"))
	w.Raw([]byte{1})
	written(t, "nil", w, nil, true)
	var r *Reader
	if r.Number(1) != 0 || r.Number(3) != 0 || len(r.Text()) != 0 || len(r.Raw(0)) != 0 || len(r.Raw(1)) != 0 || len(r.Raw(-1)) != 0 || len(r.Numbers(1, 1)) != 0 {
		t.Error("nil reads something")
	}
	left(t, "nil", r, nil, true)
}

// P3.2: numbers are read, the lowest byte first, one behind the other.
func TestReadNumber(t *testing.T) {
	for _, width := range widths {
		for _, n := range numbers() {
			b := lowest(n, width)
			r := NewReader(append(b, 5, 6))
			if got := r.Number(width); got != held(n, width) {
				t.Errorf("%x read as a number of %d bytes: %x", b, width, got)
			}
			left(t, "behind a number", r, []byte{5, 6}, false)
		}
	}
}

// P3.2: with another count of bytes the reader is bad: it has nothing left.
func TestReadNumberOfWrongWidth(t *testing.T) {
	for _, width := range wrongWidths {
		r := NewReader(some(40))
		if r.Number(width) != 0 {
			t.Errorf("a number of %d bytes is not 0", width)
		}
		left(t, "a wrong width", r, nil, true)
		if r.Number(1) != 0 || len(r.Raw(1)) != 0 || len(r.Text()) != 0 || len(r.Numbers(1, 9)) != 0 {
			t.Errorf("something is read behind a number of %d bytes", width)
		}
	}
}

// P3.2: what is not there, by a byte or by more, makes a reader bad for good.
func TestReadWhatIsNotThere(t *testing.T) {
	for name, x := range map[string]struct {
		b   []byte
		ask func(r *Reader) int
	}{
		"one byte":     {nil, func(r *Reader) int { return int(r.Number(1)) }},
		"two bytes":    {some(1), func(r *Reader) int { return int(r.Number(2)) }},
		"four bytes":   {some(3), func(r *Reader) int { return int(r.Number(4)) }},
		"eight bytes":  {some(7), func(r *Reader) int { return int(r.Number(8)) }},
		"no length":    {nil, func(r *Reader) int { return len(r.Text()) }},
		"half length":  {[]byte{0}, func(r *Reader) int { return len(r.Text()) }},
		"no text":      {[]byte{1, 0}, func(r *Reader) int { return len(r.Text()) }},
		"part of text": {[]byte{3, 0, 1, 2}, func(r *Reader) int { return len(r.Text()) }},
		"long text":    {[]byte{255, 255, 1, 2, 3}, func(r *Reader) int { return len(r.Text()) }},
		"raw":          {some(4), func(r *Reader) int { return len(r.Raw(5)) }},
		"much raw":     {some(4), func(r *Reader) int { return len(r.Raw(math.MaxInt)) }},
		"raw below 0":  {some(4), func(r *Reader) int { return len(r.Raw(-1)) }},
		"far below 0":  {some(4), func(r *Reader) int { return len(r.Raw(math.MinInt)) }},
	} {
		r := NewReader(x.b)
		left(t, name+", ahead", r, x.b, false)
		if x.ask(r) != 0 {
			t.Errorf("%s: something is read", name)
		}
		left(t, name, r, nil, true)
		if r.Number(1) != 0 || len(r.Raw(1)) != 0 || len(r.Raw(0)) != 0 || len(r.Numbers(1, 9)) != 0 {
			t.Errorf("%s: something is read behind it", name)
		}
		left(t, name+", behind it", r, nil, true)
	}
}

// P3.2: the document's second example.
func TestNumberOfThreeBytes(t *testing.T) {
	r := NewReader([]byte{1, 2, 3})
	if r.Number(4) != 0 || !r.Bad() {
		t.Error("of 3 bytes a number of 4 is read")
	}
}

// P3.2: texts and bytes are read, those of no length too.
func TestReadTextAndRaw(t *testing.T) {
	r := NewReader([]byte{0, 0, 3, 0, 'h', 'e', 'n', 9, 8, 7})
	if b := r.Text(); len(b) != 0 {
		t.Errorf("the text of no bytes is %q", b)
	}
	if b := r.Text(); string(b) != "hen" {
		t.Errorf("the text is %q", b)
	}
	if b := r.Raw(0); len(b) != 0 {
		t.Errorf("no bytes are %x", b)
	}
	if b := r.Raw(2); !bytes.Equal(b, []byte{9, 8}) {
		t.Errorf("two bytes are %x", b)
	}
	left(t, "behind them", r, []byte{7}, false)
	if b := r.Raw(1); !bytes.Equal(b, []byte{7}) {
		t.Errorf("the last byte is %x", b)
	}
	if b := r.Raw(0); len(b) != 0 {
		t.Errorf("no bytes at the end are %x", b)
	}
	left(t, "at the end", r, nil, false)
}

// P3.2: Rest reads nothing.
func TestRestReadsNothing(t *testing.T) {
	r := NewReader([]byte{1, 2, 3})
	for range 3 {
		left(t, "rest", r, []byte{1, 2, 3}, false)
	}
	if r.Number(1) != 1 || r.Number(2) != 2+3*256 {
		t.Error("Rest has read something")
	}
}

// P3.2: the numbers that are left: as many as there are bytes for, at most so
// many as are asked for; what is behind them is left.
func TestNumbers(t *testing.T) {
	for _, width := range widths {
		for length := range 35 {
			for _, most := range []int{1, 2, 3, 4, 9, 34, 35, math.MaxInt} {
				b := some(length)
				count := min(length/width, most)
				var want []uint64
				other := NewReader(b)
				for range count {
					want = append(want, other.Number(width))
				}
				r := NewReader(b)
				if got := r.Numbers(width, most); !slices.Equal(got, want) {
					t.Errorf("%d bytes, numbers of %d, at most %d: %x, want %x", length, width, most, got, want)
				}
				left(t, "behind numbers", r, b[count*width:], false)
			}
		}
	}
}

// P3.2: numbers of no right count, or none of them: nothing is read, and the
// reader is not bad by that.
func TestNoNumbers(t *testing.T) {
	b := some(20)
	for _, width := range wrongWidths {
		r := NewReader(b)
		if got := r.Numbers(width, 9); len(got) != 0 {
			t.Errorf("numbers of %d bytes: %x", width, got)
		}
		left(t, "numbers of a wrong width", r, b, false)
	}
	for _, most := range []int{0, -1, -9, math.MinInt} {
		for _, width := range widths {
			r := NewReader(b)
			if got := r.Numbers(width, most); len(got) != 0 {
				t.Errorf("at most %d numbers: %x", most, got)
			}
			left(t, "none of the numbers", r, b, false)
		}
	}
}

// writeAll writes, by numbers that hang on a seed, one thing behind the other,
// and tells what reads it and holds it to what was written.
func writeAll(w *Writer, seed uint64, things int) []func(t *testing.T, r *Reader) {
	var reads []func(t *testing.T, r *Reader)
	next := func(below int) int {
		seed = seed*6364136223846793005 + 1442695040888963407
		return int((seed >> 33) % uint64(below))
	}
	for range things {
		switch next(3) {
		case 0:
			width, n := widths[next(4)], seed
			w.Number(n, width)
			reads = append(reads, func(t *testing.T, r *Reader) {
				if got := r.Number(width); got != held(n, width) {
					t.Errorf("%x of %d bytes is read as %x", n, width, got)
				}
			})
		case 1:
			b := some(next(300))
			w.Text(b)
			reads = append(reads, func(t *testing.T, r *Reader) {
				if got := r.Text(); !bytes.Equal(got, b) {
					t.Errorf("the text %x is read as %x", b, got)
				}
			})
		default:
			b := some(next(20))
			w.Raw(b)
			reads = append(reads, func(t *testing.T, r *Reader) {
				if got := r.Raw(len(b)); !bytes.Equal(got, b) {
					t.Errorf("the bytes %x are read as %x", b, got)
				}
			})
		}
	}
	return reads
}

// P3.3: what was written is read as it was, one thing behind the other.
func TestReadAsWritten(t *testing.T) {
	for seed := range uint64(200) {
		w := NewWriter(1 << 20)
		reads := writeAll(w, seed, 1+int(seed%40))
		if w.Full() {
			t.Fatal("the writer is full")
		}
		r := NewReader(w.Bytes())
		for _, read := range reads {
			read(t, r)
		}
		left(t, "behind all", r, nil, false)
	}
}

// P3.3: numbers and a text of the greatest length are read as they were.
func TestReadTheGreatest(t *testing.T) {
	w := NewWriter(1 << 20)
	for _, n := range numbers() {
		w.Number(n, 8)
	}
	w.Text(some(65535))
	r := NewReader(w.Bytes())
	if got := r.Numbers(8, len(numbers())); !slices.Equal(got, numbers()) {
		t.Errorf("numbers are read as %x", got)
	}
	if !bytes.Equal(r.Text(), some(65535)) {
		t.Error("the longest text is read as another one")
	}
	left(t, "behind the greatest", r, nil, false)
}

// R4: what is handed in is neither changed nor kept, nor what lies behind its
// end.
func TestHandedInIsNotKept(t *testing.T) {
	room := some(64)
	was := slices.Clone(room)
	w := NewWriter(1000)
	w.Raw(room[:9])
	w.Text(room[9:20])
	w.Raw(room[:0])
	w.Number(5, 8)
	want := w.Bytes()
	r := NewReader(room[:20])
	r.Raw(3)
	r.Number(1)
	if !bytes.Equal(room, was) {
		t.Error("bytes that were handed in are others")
	}
	clear(room)
	written(t, "bytes that became others", w, want, false)
	left(t, "bytes that became others", r, was[4:20], false)
}

// R4: what is handed out shares no memory with what is kept, or with another
// answer, the room behind its end neither.
func TestHandedOutIsNew(t *testing.T) {
	w := NewWriter(100)
	w.Raw([]byte{1, 2, 3})
	clear(w.Bytes())
	early := w.Bytes()
	w.Raw([]byte{4})
	_ = append(early, 99)
	written(t, "bytes that were handed out", w, []byte{1, 2, 3, 4}, false)

	r := NewReader([]byte{2, 0, 5, 6, 7, 8, 9, 10})
	clear(r.Rest())
	text := r.Text()
	_ = append(text, 99)
	clear(text)
	raw := r.Raw(2)
	_ = append(raw, 99)
	clear(raw)
	left(t, "bytes that were handed out", r, []byte{9, 10}, false)
	a, b := NewReader([]byte{1, 2}), NewReader([]byte{1, 2})
	clear(a.Numbers(1, 2))
	if got := b.Numbers(1, 2); !slices.Equal(got, []uint64{1, 2}) {
		t.Errorf("numbers are %v behind a change of others", got)
	}
}

// R5: two readers of the same bytes have nothing to do with one another.
func TestReadersAreApart(t *testing.T) {
	b := some(10)
	first, second := NewReader(b), NewReader(b)
	first.Raw(11)
	left(t, "the first", first, nil, true)
	left(t, "the second", second, b, false)
}
