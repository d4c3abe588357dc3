package script

import (
	"bytes"
	"encoding/binary"
	"math"
	"math/rand"
	"reflect"
	"slices"
	"testing"

	"sgraffito/api"
)

// names are the kinds' names, by their numbers.
var names = []string{"get", "set", "delete", "flush", "checkpoint", "tick", "arm", "crash", "rot", "stats"}

// need fails the test at once, if an error is another one.
func need(t *testing.T, name string, got, want api.Errno) {
	t.Helper()
	if got != want {
		t.Fatalf("%s: error %d, want %d", name, got, want)
	}
}

// packed tells the bytes of acts that may be.
func packed(t *testing.T, l ...Act) []byte {
	t.Helper()
	b, e := Pack(l)
	need(t, "Pack", e, api.OK)
	return b
}

// refused holds bytes to an error, beside which there are no acts.
func refused(t *testing.T, name string, b []byte, want api.Errno) {
	t.Helper()
	l, e := Unpack(b)
	if e != want || len(l) != 0 {
		t.Fatalf("%s: error %d, want %d; %d acts", name, e, want, len(l))
	}
}

// wordedRight tells whether an act may be, as the table of the chapter has it.
func wordedRight(x Act) bool {
	noKey, noValue, noNum, noNums := len(x.Key) == 0, len(x.Value) == 0, x.Num == 0, len(x.Nums) == 0
	switch x.Kind {
	case 0, 2:
		return len(x.Key) < 65536 && noValue && noNum && noNums
	case 1:
		return len(x.Key) < 65536 && len(x.Value) < 65536 && noNums
	case 3, 4, 9:
		return noKey && noValue && noNum && noNums
	case 5, 6:
		return noKey && noValue && noNums
	case 7:
		return noKey && noValue && noNum && len(x.Nums) < 101
	case 8:
		return noKey && noValue && noNum && len(x.Nums) == 3
	}
	return false
}

// wordedBytes tells the bytes of acts that may be, as the chapter has it.
func wordedBytes(l []Act) []byte {
	b := binary.LittleEndian.AppendUint32(nil, uint32(len(l)))
	text := func(x []byte) {
		b = binary.LittleEndian.AppendUint16(b, uint16(len(x)))
		b = append(b, x...)
	}
	numbers := func(list ...int) {
		for _, n := range list {
			b = binary.LittleEndian.AppendUint64(b, uint64(n))
		}
	}
	for _, x := range l {
		b = append(b, byte(x.Kind))
		switch x.Kind {
		case 0, 2:
			text(x.Key)
		case 1:
			text(x.Key)
			text(x.Value)
			numbers(x.Num)
		case 5, 6:
			numbers(x.Num)
		case 7:
			b = append(b, byte(len(x.Nums)))
			numbers(x.Nums...)
		case 8:
			numbers(x.Nums...)
		}
	}
	return b
}

// alike tells whether acts are the same; a list that is empty may be nil.
func alike(x, y []Act) bool {
	return slices.EqualFunc(x, y, func(x, y Act) bool {
		return x.Kind == y.Kind && bytes.Equal(x.Key, y.Key) && bytes.Equal(x.Value, y.Value) && x.Num == y.Num && slices.Equal(x.Nums, y.Nums)
	})
}

// copied tells acts that share nothing with these.
func copied(l []Act) []Act {
	list := make([]Act, 0, len(l))
	for _, x := range l {
		x.Key, x.Value, x.Nums = slices.Clone(x.Key), slices.Clone(x.Value), slices.Clone(x.Nums)
		list = append(list, x)
	}
	return list
}

// anyBytes tells some bytes, mostly few.
func anyBytes(r *rand.Rand) []byte {
	b := make([]byte, r.Intn(6))
	if r.Intn(50) == 0 {
		b = make([]byte, r.Intn(700))
	}
	r.Read(b)
	return b
}

// anyNumber tells some number, at times one of the ends.
func anyNumber(r *rand.Rand) int {
	switch r.Intn(4) {
	case 0:
		return r.Intn(7) - 3
	case 1:
		return []int{math.MinInt64, math.MinInt64 + 1, -1 << 32, 1 << 31, 1 << 32, 1 << 62, math.MaxInt64}[r.Intn(7)]
	}
	return int(r.Uint64())
}

// anyNumbers tells so many numbers.
func anyNumbers(r *rand.Rand, count int) []int {
	var list []int
	for range count {
		list = append(list, anyNumber(r))
	}
	return list
}

// anyAct tells some act that may be.
func anyAct(r *rand.Rand) Act {
	x := Act{Kind: r.Intn(10)}
	switch x.Kind {
	case 0, 2:
		x.Key = anyBytes(r)
	case 1:
		x.Key, x.Value, x.Num = anyBytes(r), anyBytes(r), anyNumber(r)
	case 5, 6:
		x.Num = anyNumber(r)
	case 7:
		x.Nums = anyNumbers(r, []int{0, 1, 2, 5, 99, 100}[r.Intn(6)])
	case 8:
		x.Nums = anyNumbers(r, 3)
	}
	return x
}

// anyActs tells at most so many acts that may be.
func anyActs(r *rand.Rand, most int) []Act {
	var l []Act
	for range r.Intn(most + 1) {
		l = append(l, anyAct(r))
	}
	return l
}

// P20.1, and the example: a Get of "k", and what other acts are as bytes.
func TestBytes(t *testing.T) {
	nought := []byte{0, 0, 0, 0, 0, 0, 0, 0}
	below := []byte{255, 255, 255, 255, 255, 255, 255, 255}
	for _, c := range []struct {
		l    []Act
		want []byte
	}{
		{nil, []byte{0, 0, 0, 0}},
		{[]Act{{Key: []byte("k")}}, []byte{1, 0, 0, 0, 0, 1, 0, 107}},
		{[]Act{{}}, []byte{1, 0, 0, 0, 0, 0, 0}},
		{[]Act{{Kind: 2, Key: []byte{0, 255}}}, []byte{1, 0, 0, 0, 2, 2, 0, 0, 255}},
		{[]Act{{Kind: 1, Key: []byte("k"), Value: []byte("v"), Num: -1}}, append([]byte{1, 0, 0, 0, 1, 1, 0, 107, 1, 0, 118}, below...)},
		{[]Act{{Kind: 1}}, append([]byte{1, 0, 0, 0, 1, 0, 0, 0, 0}, nought...)},
		{[]Act{{Kind: 3}, {Kind: 4}, {Kind: 9}}, []byte{3, 0, 0, 0, 3, 4, 9}},
		{[]Act{{Kind: 5, Num: 258}}, []byte{1, 0, 0, 0, 5, 2, 1, 0, 0, 0, 0, 0, 0}},
		{[]Act{{Kind: 6, Num: math.MinInt64}}, []byte{1, 0, 0, 0, 6, 0, 0, 0, 0, 0, 0, 0, 128}},
		{[]Act{{Kind: 7}}, []byte{1, 0, 0, 0, 7, 0}},
		{[]Act{{Kind: 7, Nums: []int{math.MaxInt64}}}, []byte{1, 0, 0, 0, 7, 1, 255, 255, 255, 255, 255, 255, 255, 127}},
		{[]Act{{Kind: 8, Nums: []int{0, -1, 0}}}, slices.Concat([]byte{1, 0, 0, 0, 8}, nought, below, nought)},
	} {
		if b := packed(t, c.l...); !bytes.Equal(b, c.want) {
			t.Errorf("Pack %+v: %v, want %v", c.l, b, c.want)
		}
		if l, e := Unpack(c.want); e != api.OK || !alike(l, c.l) {
			t.Errorf("Unpack %v: %+v, error %d, want %+v", c.want, l, e, c.l)
		}
	}
}

// P20.1: Right tells of acts of all kinds, with and without each thing, and with how many
// numbers, what the chapter's table says; Pack tells ErrOp of those that may not be.
func TestRight(t *testing.T) {
	texts := [][]byte{nil, {}, {0}, []byte("key"), make([]byte, 65535), make([]byte, 65536)}
	kinds := []int{-256, -10, -1, 10, 11, 255, 256, 257, 1 << 32, math.MinInt64, math.MaxInt64}
	for kind := range 10 {
		kinds = append(kinds, kind)
	}
	right := 0
	for _, kind := range kinds {
		for _, key := range texts {
			for _, value := range texts {
				for _, num := range []int{0, 1, -1, math.MinInt64, math.MaxInt64} {
					for _, count := range []int{0, 1, 2, 3, 4, 99, 100, 101, 256, 259} {
						x := Act{Kind: kind, Key: key, Value: value, Num: num, Nums: make([]int, count)}
						want := wordedRight(x)
						if got := Right(x); got != want {
							t.Fatalf("Right, kind %d, key of %d, value of %d, number %d, %d numbers: %v", kind, len(key), len(value), num, count, got)
						}
						if want {
							right++
						} else if b, e := Pack([]Act{x}); e != api.ErrOp || len(b) != 0 {
							t.Fatalf("Pack, kind %d, key of %d, value of %d, number %d, %d numbers: error %d, %d bytes", kind, len(key), len(value), num, count, e, len(b))
						}
					}
				}
			}
		}
	}
	// Get and Delete 5 keys each, Set 5 keys, 5 values and 5 numbers; 2 empty texts
	// of each kind, with all others.
	if want := 2*5*2 + 5*5*5 + 3*2*2 + 2*2*2*5 + 2*2*7 + 2*2; right != want {
		t.Errorf("%d acts may be, want %d", right, want)
	}
}

// P20.1: one act that may not be is enough for ErrOp, wherever it stands.
func TestWrongAct(t *testing.T) {
	l := []Act{{Kind: 3}, {Key: []byte("k")}, {Kind: 7, Nums: []int{1}}, {Kind: 9}}
	for i := range l {
		for _, x := range []Act{{Kind: 10}, {Kind: -1}, {Kind: 9, Num: 1}, {Kind: 8}, {Kind: 8, Nums: make([]int, 4)}} {
			m := copied(l)
			m[i] = x
			if b, e := Pack(m); e != api.ErrOp || len(b) != 0 {
				t.Errorf("%d, %+v: error %d, %d bytes", i, x, e, len(b))
			}
		}
	}
}

// P20.1: a script has at most 2^16 acts; that counts ahead of acts that may not be, and of
// bytes that are none.
func TestMostActs(t *testing.T) {
	l := make([]Act, 1<<16)
	for i := range l {
		l[i].Kind = 3
	}
	b := packed(t, l...)
	if want := append([]byte{0, 0, 1, 0}, bytes.Repeat([]byte{3}, 1<<16)...); !bytes.Equal(b, want) {
		t.Errorf("%d bytes", len(b))
	}
	if m, e := Unpack(b); e != api.OK || !alike(m, l) {
		t.Errorf("%d acts, error %d", len(m), e)
	}
	for _, x := range []Act{{Kind: 3}, {Kind: 99}} {
		if b, e := Pack(append(slices.Clip(l), x)); e != api.ErrLong || len(b) != 0 {
			t.Errorf("error %d, %d bytes", e, len(b))
		}
	}
	wrong := slices.Clone(l)
	wrong[1<<16-1].Kind = 99
	if b, e := Pack(wrong); e != api.ErrOp || len(b) != 0 {
		t.Errorf("error %d, %d bytes", e, len(b))
	}
	refused(t, "one more", append([]byte{1, 0, 1, 0}, bytes.Repeat([]byte{3}, 1<<16+1)...), api.ErrLong)
	refused(t, "one more said", []byte{1, 0, 1, 0}, api.ErrLong)
	refused(t, "one more, of no kind", []byte{1, 0, 1, 0, 99}, api.ErrLong)
	refused(t, "most said", []byte{255, 255, 255, 255}, api.ErrLong)
	refused(t, "most of 4 bytes with a sign", []byte{0, 0, 0, 128, 3}, api.ErrLong)
	refused(t, "2^16 said", []byte{0, 0, 1, 0}, api.ErrForm)
}

// P20.1: keys and values of the most bytes that there may be are packed whole.
func TestLongTexts(t *testing.T) {
	long := bytes.Repeat([]byte("abcde"), 65535/5)
	l := []Act{{Key: long}, {Kind: 1, Key: long, Value: long[1:], Num: 7}, {Kind: 2, Key: long[:65534]}, {Kind: 1, Value: long}}
	b := packed(t, l...)
	if !bytes.Equal(b, wordedBytes(l)) {
		t.Errorf("%d bytes", len(b))
	}
	if m, e := Unpack(b); e != api.OK || !alike(m, l) {
		t.Errorf("%d acts, error %d", len(m), e)
	}
}

// P20.1: bytes that are no script's: fewer, more, of no kind, of too many numbers, of another
// count of acts.
func TestNoScript(t *testing.T) {
	l := []Act{{Key: []byte("k")}, {Kind: 1, Key: []byte("ab"), Value: []byte("cde"), Num: 5}, {Kind: 2, Key: []byte("k")}, {Kind: 3}, {Kind: 4},
		{Kind: 5, Num: 1}, {Kind: 6, Num: -2}, {Kind: 7, Nums: []int{1, 2}}, {Kind: 8, Nums: []int{1, 2, 3}}, {Kind: 9}}
	b := packed(t, l...)
	for n := range b {
		refused(t, "fewer", b[:n], api.ErrForm)
	}
	for more := range 256 {
		refused(t, "more", append(slices.Clip(b), byte(more)), api.ErrForm)
	}
	for _, count := range []byte{0, 1, 9, 11, 255} {
		other := slices.Clone(b)
		other[0] = count
		refused(t, "another count", other, api.ErrForm)
	}
	for kind := 10; kind < 256; kind++ {
		refused(t, "of no kind", append([]byte{1, 0, 0, 0, byte(kind)}, make([]byte, 64)...), api.ErrForm)
		refused(t, "of no kind", []byte{1, 0, 0, 0, byte(kind)}, api.ErrForm)
		refused(t, "of no kind, later", []byte{3, 0, 0, 0, 3, byte(kind), 3}, api.ErrForm)
	}
	for count := range 256 {
		crash := append([]byte{1, 0, 0, 0, 7, byte(count)}, make([]byte, 8*count)...)
		if count > 100 {
			refused(t, "too many numbers", crash, api.ErrForm)
		} else if m, e := Unpack(crash); e != api.OK || len(m) != 1 || len(m[0].Nums) != count {
			t.Errorf("%d numbers: %+v, error %d", count, m, e)
		}
		if count > 0 {
			refused(t, "numbers that are not there", crash[:len(crash)-1], api.ErrForm)
			refused(t, "numbers that are not there", crash[:len(crash)-8], api.ErrForm)
		}
	}
	for _, b := range [][]byte{nil, {}, {0}, {0, 0, 0}, {1, 0, 1}, {0, 0, 0, 0, 0}} {
		refused(t, "too few, or too many", b, api.ErrForm)
	}
}

// P20.2: each kind's name, and back; of another one there is none.
func TestNames(t *testing.T) {
	for range 20 { // whatever the order of a map
		for kind, name := range names {
			if got := Name(kind); got != name {
				t.Errorf("Name(%d): %q", kind, got)
			}
			if got, is := Kind(name); got != kind || !is {
				t.Errorf("Kind(%q): %d, %v", name, got, is)
			}
		}
	}
	for _, kind := range []int{-1, 10, 11, 256, 265, 1 << 32, math.MinInt64, math.MaxInt64} {
		if got := Name(kind); got != "" {
			t.Errorf("Name(%d): %q", kind, got)
		}
	}
	for _, name := range []string{"", " ", "Get", "GET", "get ", " get", "ge", "gets", "del", "remove", "0", "get\x00", "stat", "\xff"} {
		if got, is := Kind(name); got != 0 || is {
			t.Errorf("Kind(%q): %d, %v", name, got, is)
		}
	}
}

// P20.1, P20.3: acts of all kinds are the bytes that the chapter words, and are read of them
// as they were.
func TestAsTheyWere(t *testing.T) {
	for seed := range int64(3000) {
		r := rand.New(rand.NewSource(seed))
		l := anyActs(r, 20)
		for _, x := range l {
			if !Right(x) {
				t.Fatalf("seed %d: %+v", seed, x)
			}
		}
		b := packed(t, l...)
		if !bytes.Equal(b, wordedBytes(l)) {
			t.Fatalf("seed %d: %v, want %v", seed, b, wordedBytes(l))
		}
		m, e := Unpack(b)
		if e != api.OK || !alike(m, l) {
			t.Fatalf("seed %d: %+v, error %d, want %+v", seed, m, e, l)
		}
	}
}

// P20.3: no other bytes are a script's: what is read of bytes, of whatever kind, is packed as just
// these.
func TestNoOtherBytes(t *testing.T) {
	scripts := 0
	held := func(b []byte) {
		l, e := Unpack(b)
		if e == api.OK {
			scripts++
			if !bytes.Equal(packed(t, l...), b) {
				t.Fatalf("%v is read as %+v", b, l)
			}
			return
		}
		want := api.ErrForm
		if len(b) >= 4 && binary.LittleEndian.Uint32(b) > 1<<16 {
			want = api.ErrLong
		}
		if e != want || len(l) != 0 {
			t.Fatalf("%v: error %d, want %d; %d acts", b, e, want, len(l))
		}
	}
	for seed := range int64(2000) {
		r := rand.New(rand.NewSource(seed))
		b := wordedBytes(anyActs(r, 4))
		for range 1 + r.Intn(3) {
			switch r.Intn(5) {
			case 0:
				b[r.Intn(len(b))] = byte(r.Intn(12))
			case 1:
				b[r.Intn(len(b))] ^= 1 << r.Intn(8)
			case 2:
				b = slices.Insert(b, r.Intn(len(b)+1), byte(r.Intn(12)))
			case 3:
				b = slices.Delete(b, len(b)-1, len(b))
			case 4:
				b[0]++
			}
			if len(b) == 0 {
				b = []byte{0}
			}
		}
		held(b)
	}
	for seed := range int64(20000) { // few acts of few bytes
		r := rand.New(rand.NewSource(seed))
		b := []byte{byte(r.Intn(4)), 0, 0, 0}
		for range r.Intn(24) {
			b = append(b, byte(r.Intn(11))&byte(-r.Intn(2)))
		}
		held(b)
	}
	if scripts < 500 {
		t.Errorf("%d were scripts", scripts)
	}
}

// R4: what is handed in is not changed, nor the room behind it, and not kept.
func TestHandedIn(t *testing.T) {
	whole := bytes.Repeat([]byte{77}, 100)
	numbers := slices.Repeat([]int{77}, 100)
	l := make([]Act, 3, 8)
	l[0] = Act{Kind: 1, Key: whole[0:3], Value: whole[10:12], Num: 5}
	l[1] = Act{Kind: 7, Nums: numbers[:4]}
	l[2] = Act{Kind: 2, Key: whole[20:20]}
	before := copied(l)
	for _, x := range l {
		Right(x)
	}
	b := packed(t, l...)
	if !alike(l, before) || !slices.Equal(whole, bytes.Repeat([]byte{77}, 100)) || !slices.Equal(numbers, slices.Repeat([]int{77}, 100)) {
		t.Error("Pack changed what was handed in")
	}
	for _, x := range l[3:8] {
		if !reflect.DeepEqual(x, Act{}) {
			t.Error("Pack changed the room behind the acts")
		}
	}
	clear(whole)
	clear(numbers)
	if !bytes.Equal(b, wordedBytes(before)) {
		t.Error("the bytes are what was handed in")
	}
	room := append(slices.Clone(b), 1, 2, 3)
	m, e := Unpack(room[:len(b)])
	need(t, "Unpack", e, api.OK)
	if !bytes.Equal(room, append(slices.Clone(b), 1, 2, 3)) {
		t.Error("Unpack changed what was handed in")
	}
	clear(room)
	if !alike(m, before) {
		t.Error("the acts are what was handed in")
	}
}

// R4: what is handed out is new memory, and no two lists of it share any.
func TestHandedOut(t *testing.T) {
	l := []Act{{Key: []byte("one")}, {Kind: 1, Key: []byte("two"), Value: []byte("three"), Num: 1}, {Kind: 7, Nums: []int{4, 5}}, {Kind: 8, Nums: []int{6, 7, 8}}}
	b := packed(t, l...)
	clear(packed(t, l...))
	m, _ := Unpack(b)
	other, _ := Unpack(b)
	for _, x := range other {
		clear(x.Key)
		clear(x.Value)
		clear(x.Nums)
	}
	for i := range m { // what is written behind a list's end must not be another's beginning
		_ = append(m[i].Key, 99, 99, 99, 99, 99, 99, 99, 99, 99, 99, 99, 99)
		_ = append(m[i].Value, 99, 99, 99, 99, 99, 99, 99, 99, 99, 99, 99, 99)
		_ = append(m[i].Nums, 99, 99, 99, 99)
	}
	if !alike(m, l) || !bytes.Equal(b, wordedBytes(l)) {
		t.Errorf("%+v", m)
	}
}
