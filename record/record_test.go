package record

import (
	"bytes"
	"math"
	"slices"
	"testing"

	"sgraffito/api"
)

// keys, values and ends are how long keys and values are that may be, and the
// ends that may be, at their edges and between.
var (
	keys   = []int{1, 2, 31, 63, 64}
	values = []int{0, 1, 2, 90, 165, 255, 256, 257, 4095, 4096}
	ends   = []int{0, 1, 90, 165, 255, 256, 0x010203040506, 1<<48 - 1, 1 << 48}
)

// wrongKeys, wrongValues and wrongEnds are those that may not be. (Of a length
// that is below 0 there is nothing to pack.)
var (
	wrongKeys   = []int{0, 65, 66, 128, 255, 256, 257, 320, 1 << 16}
	wrongValues = []int{4097, 4098, 8192, 65535, 65536, 65537, 1 << 20}
	wrongEnds   = []int{-1, -2, math.MinInt, math.MinInt + 5, -1 << 48, 1<<48 + 1, 1 << 49, 1 << 62, math.MaxInt}
)

// lowest tells a number of so many bytes, the lowest first.
func lowest(n, width int) []byte {
	var b []byte
	for range width {
		b = append(b, byte(n%256))
		n /= 256
	}
	return b
}

// worded tells the bytes of a record that may be, as the document words them.
func worded(x Record) []byte {
	b := []byte{165, byte(len(x.Key))}
	b = append(b, lowest(len(x.Value), 2)...)
	b = append(b, lowest(x.End, 8)...)
	b = append(b, x.Key...)
	b = append(b, x.Value...)
	return append(b, 90)
}

// some tells so many bytes that differ from one another, from a seed on.
func some(seed, length int) []byte {
	b := make([]byte, length)
	n := uint32(seed)*7919 + 17
	for i := range b {
		n = n*1664525 + 1013904223
		b[i] = byte(n >> 24)
	}
	return b
}

// records tells records at all edges of what may be.
func records() []Record {
	var list []Record
	for i, key := range keys {
		for j, value := range values {
			for k, end := range ends {
				list = append(list, Record{some(i+j, key), some(100+j+k, value), end})
			}
		}
	}
	return list
}

// same tells whether two records are the same.
func same(x, y Record) bool {
	return bytes.Equal(x.Key, y.Key) && bytes.Equal(x.Value, y.Value) && x.End == y.End
}

// none tells whether a record is the zero value.
func none(x Record) bool { return same(x, Record{}) }

// pack tells the bytes of a record that may be.
func pack(t *testing.T, x Record) []byte {
	t.Helper()
	b, e := Pack(x)
	if e != api.OK {
		t.Fatalf("a key of %d, a value of %d, the end %d: error %d", len(x.Key), len(x.Value), x.End, e)
	}
	return b
}

// reads holds bytes to beginning with a record.
func reads(t *testing.T, name string, b []byte, want Record) {
	t.Helper()
	x, size, e := Unpack(b)
	if e != api.OK || !same(x, want) || size != 13+len(want.Key)+len(want.Value) {
		t.Fatalf("%s: a key of %d, a value of %d, the end %d, %d bytes, error %d; want %d, %d, %d", name, len(x.Key), len(x.Value), x.End, size, e, len(want.Key), len(want.Value), want.End)
	}
}

// noRecord holds bytes to beginning with none.
func noRecord(t *testing.T, name string, b []byte) {
	t.Helper()
	if x, size, e := Unpack(b); e != api.ErrForm || size != 0 || !none(x) {
		t.Fatalf("%s: %v, %d bytes, error %d", name, x, size, e)
	}
}

// P9.1: a record has 13 bytes and its key's and value's; 0, if there is none
// such.
func TestSize(t *testing.T) {
	for key := -3; key <= 300; key++ {
		for value := -3; value <= 4400; value++ {
			want := 0
			if key >= 1 && key <= 64 && value >= 0 && value <= 4096 {
				want = 13 + key + value
			}
			if got := Size(key, value); got != want {
				t.Fatalf("Size(%d, %d) is %d, want %d", key, value, got, want)
			}
		}
	}
	far := []int{math.MinInt, math.MinInt + 1, -1 << 32, -65, -64, -1, 0, 1 << 16, 1<<16 + 1, 1 << 32, 1<<32 + 1, math.MaxInt - 13, math.MaxInt}
	for _, x := range far {
		for _, right := range []int{1, 64} {
			if Size(x, right) != 0 || (x != 0 && Size(right, x) != 0) {
				t.Errorf("Size of %d and %d is %d, %d", x, right, Size(x, right), Size(right, x))
			}
		}
		for _, y := range far {
			if got := Size(x, y); got != 0 {
				t.Errorf("Size(%d, %d) is %d", x, y, got)
			}
		}
	}
}

// P9.1: the document's examples.
func TestExamples(t *testing.T) {
	b := pack(t, Record{Key: []byte("k"), Value: []byte("v")})
	if want := []byte{165, 1, 1, 0, 0, 0, 0, 0, 0, 0, 0, 0, 'k', 'v', 90}; !bytes.Equal(b, want) {
		t.Errorf("the record is %v", b)
	}
	if !Ended(5, 5) || Ended(0, 9) {
		t.Error("Ended(5, 5) or Ended(0, 9)")
	}
}

// P9.1: a record's bytes are those that the document words, as many as Size
// tells.
func TestPack(t *testing.T) {
	for _, x := range records() {
		b := pack(t, x)
		if !bytes.Equal(b, worded(x)) || len(b) != Size(len(x.Key), len(x.Value)) {
			t.Fatalf("a key of %d, a value of %d, the end %d: %x", len(x.Key), len(x.Value), x.End, b)
		}
	}
	empty, without := pack(t, Record{Key: []byte("k"), Value: []byte{}}), pack(t, Record{Key: []byte("k")})
	if !bytes.Equal(empty, without) {
		t.Error("a value of length 0 is not that of none")
	}
}

// P9.1: keys and values of all lengths that may be, and whatever their bytes
// are.
func TestPackLengths(t *testing.T) {
	for key := 1; key <= 64; key++ {
		x := Record{some(key, key), some(key, 3), key}
		if b := pack(t, x); !bytes.Equal(b, worded(x)) {
			t.Errorf("a key of %d: %x", key, b)
		}
	}
	for value := range 4097 {
		x := Record{some(value, 2), some(value, value), value}
		if b := pack(t, x); !bytes.Equal(b, worded(x)) {
			t.Fatalf("a value of %d: %x", value, b)
		}
	}
	for n := range 256 {
		x := Record{bytes.Repeat([]byte{byte(n)}, 64), bytes.Repeat([]byte{byte(n)}, 200), n}
		b := pack(t, x)
		if !bytes.Equal(b, worded(x)) {
			t.Errorf("all bytes %d: %x", n, b)
		}
		reads(t, "all bytes alike", b, x)
	}
}

// P9.1: what may not be packed, and of several errors the first.
func TestPackWrong(t *testing.T) {
	try := func(key, value, end int, want api.Errno) {
		t.Helper()
		b, e := Pack(Record{make([]byte, key), make([]byte, value), end})
		if e != want || b != nil {
			t.Errorf("a key of %d, a value of %d, the end %d: %d bytes, error %d, want %d", key, value, end, len(b), e, want)
		}
	}
	for _, key := range wrongKeys {
		try(key, 0, 0, api.ErrKey)
		try(key, 4096, 1<<48, api.ErrKey)
		for _, value := range wrongValues {
			try(key, value, 0, api.ErrKey)
			try(key, value, -1, api.ErrKey)
		}
		for _, end := range wrongEnds {
			try(key, 1, end, api.ErrKey)
		}
	}
	for _, key := range keys {
		for _, value := range wrongValues {
			try(key, value, 0, api.ErrValue)
			for _, end := range wrongEnds {
				try(key, value, end, api.ErrValue)
			}
		}
		for _, value := range values {
			for _, end := range wrongEnds {
				try(key, value, end, api.ErrRange)
			}
		}
	}
	if b, e := Pack(Record{}); e != api.ErrKey || b != nil {
		t.Errorf("of the empty record: %x, error %d", b, e)
	}
}

// P9.1, P9.3: a record is read as it was written, whatever stands behind it.
func TestReadAsWritten(t *testing.T) {
	for i, x := range records() {
		b := worded(x)
		reads(t, "alone", b, x)
		for name, behind := range map[string][]byte{
			"0":            make([]byte, 40),
			"all ones":     bytes.Repeat([]byte{255}, 40),
			"some bytes":   some(i, 100),
			"one byte":     {90},
			"itself":       b,
			"another one":  worded(Record{[]byte("hen"), []byte("white"), 7}),
			"one that was": b[:len(b)-1],
		} {
			reads(t, name, slices.Concat(b, behind), x)
		}
	}
}

// P9.1: bytes that are cut do not begin with a record.
func TestReadCut(t *testing.T) {
	noRecord(t, "nil", nil)
	noRecord(t, "nothing", []byte{})
	for _, x := range []Record{{[]byte("k"), nil, 0}, {some(1, 64), some(2, 300), 1 << 48}, {some(3, 9), some(4, 4096), 77}} {
		b := worded(x)
		for length := range b {
			noRecord(t, "cut", b[:length])
			noRecord(t, "cut, and more in the room behind it", b[:length:len(b)])
		}
	}
}

// P9.1: a byte ahead of the first makes it none, too.
func TestReadNotAtTheBeginning(t *testing.T) {
	b := worded(Record{[]byte("hen"), []byte("white"), 5})
	for n := range 256 {
		noRecord(t, "behind a byte", slices.Concat([]byte{byte(n)}, b))
	}
	noRecord(t, "without its first byte", b[1:])
}

// P9.1: what it begins with, and ends with.
func TestReadWrongMarks(t *testing.T) {
	for _, x := range []Record{{[]byte("hen"), []byte("white"), 5}, {[]byte("k"), nil, 0}, {some(1, 64), some(2, 4096), 1 << 48}} {
		b := worded(x)
		for n := range 256 {
			c := slices.Clone(b)
			c[0] = byte(n)
			if n != 165 {
				noRecord(t, "a wrong first byte", c)
			}
			c = slices.Clone(b)
			c[len(c)-1] = byte(n)
			if n != 90 {
				noRecord(t, "a wrong last byte", c)
				noRecord(t, "a wrong last byte, and the right one behind", append(c, 90))
			}
		}
	}
}

// P9.1: lengths and ends that may not be, with all that they ask for behind
// them, and 90 at each place where it might end.
func TestReadWrongNumbers(t *testing.T) {
	b := bytes.Repeat([]byte{90}, 70000)
	behind := b[12:]
	head := func(key, value int, end uint64) []byte {
		b[0], b[1], b[2], b[3] = 165, byte(key), byte(value), byte(value>>8)
		for i := range 8 {
			b[4+i] = byte(end >> (8 * i))
		}
		return b
	}
	for key := range 256 {
		if key < 1 || key > 64 {
			noRecord(t, "a wrong key", head(key, 0, 0))
			noRecord(t, "a wrong key", head(key, 4096, 0))
		} else {
			reads(t, "a right key", head(key, 3, 0), Record{behind[:key], behind[:3], 0})
		}
	}
	for value := range 1 << 16 {
		if value > 4096 {
			noRecord(t, "a wrong value", head(1, value, 0))
		} else if value%64 < 2 {
			reads(t, "a right value", head(1, value, 0), Record{behind[:1], behind[:value], 0})
		}
	}
	for bit := range 64 {
		for _, end := range []uint64{1 << bit, 1<<bit - 1, 1<<bit + 1, ^uint64(0) - 1<<bit} {
			if end > 1<<48 {
				noRecord(t, "a wrong end", head(1, 1, end))
			} else {
				reads(t, "a right end", head(1, 1, end), Record{behind[:1], behind[:1], int(end)})
			}
		}
	}
	noRecord(t, "a wrong end", head(1, 1, math.MaxUint64))
	noRecord(t, "all wrong", head(0, 65535, math.MaxUint64))
	noRecord(t, "all ones", bytes.Repeat([]byte{255}, 5000))
	noRecord(t, "all 0", make([]byte, 5000))
	noRecord(t, "all 165", bytes.Repeat([]byte{165}, 50000))
}

// P9.1: just what Pack makes is read: a byte that is changed gives none, or a
// record whose bytes stand there.
func TestReadChangedBytes(t *testing.T) {
	b := append(worded(Record{[]byte("hen"), []byte("white"), 0x0102}), some(1, 5000)...)
	for i := range 21 {
		for n := range 256 {
			c := slices.Clone(b)
			c[i] = byte(n)
			x, size, e := Unpack(c)
			if e == api.ErrForm && none(x) && size == 0 {
				continue
			}
			if p, pe := Pack(x); e != api.OK || pe != api.OK || size != len(p) || !bytes.Equal(p, c[:size]) {
				t.Fatalf("byte %d is %d: %v, %d bytes, error %d", i, n, x, size, e)
			}
		}
	}
}

// P9.1: of any numbers an end has come, if it is not 0, and not above the time.
func TestEnded(t *testing.T) {
	numbers := []int{math.MinInt, math.MinInt + 1, -1 << 48, -6, -5, -1, 0, 1, 4, 5, 6, 1<<48 - 1, 1 << 48, 1<<48 + 1, math.MaxInt - 1, math.MaxInt}
	for _, end := range numbers {
		for _, at := range numbers {
			if got, want := Ended(end, at), !(end == 0) && !(end > at); got != want {
				t.Errorf("Ended(%d, %d) is %v", end, at, got)
			}
		}
	}
}

// allAre holds bytes to having just these records.
func allAre(t *testing.T, name string, b []byte, want ...Record) {
	t.Helper()
	if got := All(b); !slices.EqualFunc(got, want, same) {
		t.Fatalf("%s: %d records, %v, want %d", name, len(got), got, len(want))
	}
}

// P9.2: one behind the other, with and without noughts ahead of each.
func TestAll(t *testing.T) {
	fox, hen, owl := Record{[]byte("fox"), []byte("red"), 0}, Record{[]byte("hen"), nil, 9}, Record{some(1, 64), some(2, 4096), 1 << 48}
	for _, noughts := range []int{0, 1, 2, 12, 13, 100} {
		gap := make([]byte, noughts)
		allAre(t, "one", slices.Concat(gap, worded(fox)), fox)
		allAre(t, "two", slices.Concat(gap, worded(fox), gap, worded(hen)), fox, hen)
		allAre(t, "three", slices.Concat(worded(owl), gap, worded(fox), gap, worded(hen)), owl, fox, hen)
		allAre(t, "the same again", slices.Concat(worded(hen), gap, worded(hen), gap, worded(hen), gap), hen, hen, hen)
	}
	allAre(t, "nil", nil)
	allAre(t, "nothing", []byte{})
	allAre(t, "noughts alone", make([]byte, 1000))
}

// P9.2: it ends where what stands there is no record, whatever stands behind.
func TestAllEnds(t *testing.T) {
	fox, hen := Record{[]byte("fox"), []byte("red"), 0}, Record{[]byte("hen"), []byte("white"), 9}
	for n := 1; n < 256; n++ {
		stop := []byte{byte(n)}
		allAre(t, "a byte ahead", slices.Concat(stop, worded(fox)))
		allAre(t, "a byte between", slices.Concat(worded(fox), stop, worded(hen)), fox)
		allAre(t, "a byte between noughts", slices.Concat(worded(fox), []byte{0, 0}, stop, []byte{0}, worded(hen)), fox)
		allAre(t, "a byte at the end", slices.Concat(worded(fox), worded(hen), stop), fox, hen)
	}
	whole := slices.Concat(worded(fox), []byte{0, 0, 0}, worded(hen))
	for length := range whole {
		if length < len(worded(fox)) {
			allAre(t, "cut in the first", whole[:length:len(whole)])
		} else {
			allAre(t, "cut in the second", whole[:length:len(whole)], fox)
		}
	}
	broken := slices.Concat(worded(fox), worded(hen), worded(fox))
	broken[len(worded(fox))+len(worded(hen))-1]++
	allAre(t, "a broken one between", broken, fox)
}

// P9.2: what looks like records, or noughts, in a key or a value is not told.
func TestAllWithin(t *testing.T) {
	inner := worded(Record{[]byte("in"), []byte("ner"), 3})
	outer := Record{slices.Concat(inner, []byte{0}, inner), slices.Concat([]byte{0, 0}, inner, inner, []byte{90, 0}), 4}
	noughts := Record{make([]byte, 64), make([]byte, 4096), 0}
	allAre(t, "records in a record", slices.Concat(worded(outer), worded(noughts), worded(outer)), outer, noughts, outer)
}

// slowAll tells the records of bytes as the document words it, by packing what
// seems to stand there, and holding it against what does.
func slowAll(b []byte) []Record {
	var list []Record
	for len(b) > 0 {
		if b[0] == 0 {
			b = b[1:]
			continue
		}
		if len(b) < 14 {
			return list
		}
		key, value, end := int(b[1]), int(b[2])+256*int(b[3]), 0
		for i := range 8 {
			end |= int(b[4+i]) << (8 * i)
		}
		if len(b) < 13+key+value || key < 1 || key > 64 || value > 4096 || end < 0 || end > 1<<48 {
			return list
		}
		x := Record{b[12 : 12+key], b[12+key : 12+key+value], end}
		if !bytes.HasPrefix(b, worded(x)) {
			return list
		}
		list = append(list, x)
		b = b[13+key+value:]
	}
	return list
}

// P9.2: rows of records, noughts and bytes that are changed, against a slow way.
func TestAllAgainstASlowWay(t *testing.T) {
	told := 0
	for seed := range 3000 {
		dice := some(seed, 40)
		var b []byte
		for _, n := range dice[:2+seed%12] {
			switch {
			case n < 60:
				b = append(b, make([]byte, n%5)...)
			case n < 70:
				b = append(b, some(int(n), int(n%3))...)
			default:
				b = append(b, worded(Record{some(int(n), 1+int(n)%64), some(seed, int(n)%40), int(n) << (n % 40)})...)
			}
		}
		if seed%3 == 0 && len(b) > 0 {
			b[(256*int(dice[30])+int(dice[31]))%len(b)] ^= dice[32]
		}
		want := slowAll(b)
		told += len(want)
		allAre(t, "some bytes", b, want...)
	}
	if told < 5000 {
		t.Errorf("there were only %d records to tell", told)
	}
}

// P9.2, R1: it ends soon of many records, and of long rows that hold none.
func TestAllOfMany(t *testing.T) {
	x := Record{[]byte("k"), nil, 0}
	if got := All(bytes.Repeat(worded(x), 200000)); len(got) != 200000 || !same(got[199999], x) {
		t.Errorf("%d records", len(got))
	}
	far := append(make([]byte, 1<<25), worded(x)...)
	allAre(t, "many noughts ahead", far, x)
	allAre(t, "many bytes that are none", bytes.Repeat([]byte{165}, 1<<25))
}

// spoil changes all bytes of a list and of the room behind it.
func spoil(b []byte) {
	b = b[:cap(b)]
	for i := range b {
		b[i] ^= 255
	}
}

// R4: what is handed in is not changed and not kept, its spare room neither,
// and what is handed out is new.
func TestMemoryOfPack(t *testing.T) {
	row := []byte("henwhitespare room")
	x := Record{row[:3:8], row[3:8], 5}
	before := slices.Clone(row)
	b, c := pack(t, x), pack(t, x)
	spoil(b)
	if !bytes.Equal(row, before) || !bytes.Equal(c, worded(x)) {
		t.Error("Pack changes what it was handed, or hands out what is another's")
	}
	spoil(row)
	if x := (Record{[]byte("hen"), []byte("white"), 5}); !bytes.Equal(c, worded(x)) {
		t.Error("Pack hands out what it was handed")
	}
}

// R4: and so of what is read: no key, no value shares its memory.
func TestMemoryOfReading(t *testing.T) {
	hen := Record{[]byte("hen"), []byte("white"), 5}
	row := slices.Concat(worded(hen), worded(hen), some(1, 50))
	b := row[:2*len(worded(hen))]
	before := slices.Clone(row)
	x, _, _ := Unpack(b)
	y, _, _ := Unpack(b)
	spoil(x.Key)
	if !bytes.Equal(x.Value, hen.Value) {
		t.Error("a value's memory is its key's")
	}
	spoil(x.Value)
	list := All(b)
	if len(list) != 2 {
		t.Fatalf("%d records", len(list))
	}
	spoil(list[0].Key)
	spoil(list[0].Value)
	if !bytes.Equal(row, before) || !same(y, hen) || !same(list[1], hen) {
		t.Error("what is handed out is another's")
	}
	spoil(row)
	if !same(y, hen) || !same(list[1], hen) {
		t.Error("what was handed in is kept")
	}
}
