package wire_test

import (
	"bytes"
	"math"
	"math/big"
	"testing"

	"treeline/api"
	"treeline/wire"
)

// Kinds of numbers that aren't the language's own, as Number lets them be.
type (
	kind8  uint8
	kind16 uint16
	kind32 uint32
	kind64 uint64
)

// sizes are those that Put is told of, at which something could go astray.
var sizes = []int{0, 1, 2, 3, 4, 5, 6, 7, 8, 9, 10, 15, 16, 17, 63, 64, 65, 255, 256, 257, 999, 1000}

// belowNothing are sizes and counts below 0, down to the end of int.
var belowNothing = []int{-1, -2, -7, -8, -9, -255, -256, -1000, math.MinInt32, math.MinInt + 1, math.MinInt}

// beyondAll are sizes and counts that no list of these tests has bytes for.
var beyondAll = []int{100, 255, 256, 257, 1 << 16, math.MaxInt32, math.MaxInt/2 + 1, math.MaxInt - 1, math.MaxInt}

// numbers are such that a bit or a byte which goes astray is seen.
func numbers() []uint64 {
	list := []uint64{0, 1, 2, 5, 127, 128, 255, 256, 258, 0x0102, 0xFEDC, 0x01020304, 0x89ABCDEF, 0x0102030405060708, 0xFEDCBA9876543210, math.MaxUint64}
	for i := range 64 {
		list = append(list, 1<<i, 1<<i-1)
	}
	return list
}

// lists are bytes to put behind, or to read: none at all among them.
func lists() [][]byte {
	long := make([]byte, 70)
	for i := range long {
		long[i] = byte(37*i + 11)
	}
	return [][]byte{nil, {}, {0}, {9}, {0, 0}, {1, 2, 3}, {255, 254, 253, 252, 251, 250, 249, 248, 247}, long}
}

// lowest works the lowest size bytes of n out anew, by numbers that never
// wrap round.
func lowest(n uint64, size int) []byte {
	base := big.NewInt(256)
	rest := new(big.Int).SetUint64(n)
	out := make([]byte, max(size, 0))
	for i := len(out) - 1; i >= 0; i-- {
		digit := new(big.Int)
		rest.QuoRem(rest, base, digit)
		out[i] = byte(digit.Int64())
	}
	return out
}

// join answers the lists one behind the other, in memory of their own.
func join(lists ...[]byte) []byte {
	return bytes.Join(lists, nil)
}

// number works the number of bytes out anew, what is left by 2^64.
func number(b []byte) uint64 {
	n := new(big.Int).SetBytes(b)
	return n.And(n, new(big.Int).SetUint64(math.MaxUint64)).Uint64()
}

// all answers what a list has, its spare room included.
func all(b []byte) []byte {
	return b[:cap(b)]
}

// spoil turns over every bit of a list, its spare room included.
func spoil(b []byte) {
	for i := range all(b) {
		all(b)[i] ^= 0xFF
	}
}

// roomy answers a list like b with spare room of bytes 0xA5 behind it.
func roomy(b []byte, spare int) []byte {
	whole := append(bytes.Clone(b), bytes.Repeat([]byte{0xA5}, spare)...)
	return whole[:len(b)]
}

// 3.1: Put.

func TestPut(t *testing.T) {
	for _, c := range []struct {
		name      string
		got, want []byte
	}{
		{"the example", wire.Put(nil, uint64(258), 3), []byte{0, 1, 2}},
		{"behind others", wire.Put([]byte{9}, uint32(0x01020304), 4), []byte{9, 1, 2, 3, 4}},
		{"its own bytes, of 8 bits", wire.Put([]byte{1}, uint8(0xAB), 1), []byte{1, 0xAB}},
		{"its own bytes, of 16 bits", wire.Put([]byte{1}, uint16(0xABCD), 2), []byte{1, 0xAB, 0xCD}},
		{"its own bytes, of 64 bits", wire.Put([]byte{1}, uint64(0x0102030405060708), 8), []byte{1, 1, 2, 3, 4, 5, 6, 7, 8}},
		{"fewer than its own, of 16 bits", wire.Put(nil, uint16(0x0102), 1), []byte{2}},
		{"fewer than its own, of 32 bits", wire.Put(nil, uint32(0x01020304), 3), []byte{2, 3, 4}},
		{"fewer than its own, of 64 bits", wire.Put(nil, uint64(0x0102030405060708), 5), []byte{4, 5, 6, 7, 8}},
		{"more than its own, of 8 bits", wire.Put([]byte{9}, uint8(7), 2), []byte{9, 0, 7}},
		{"more than its own, of 16 bits", wire.Put([]byte{9}, uint16(0xFFFF), 4), []byte{9, 0, 0, 255, 255}},
		{"more than its own, of 32 bits", wire.Put(nil, uint32(math.MaxUint32), 6), []byte{0, 0, 255, 255, 255, 255}},
		{"more than eight", wire.Put(nil, uint64(5), 9), []byte{0, 0, 0, 0, 0, 0, 0, 0, 5}},
		{"more than eight, all bits", wire.Put([]byte{1}, uint64(math.MaxUint64), 10), []byte{1, 0, 0, 255, 255, 255, 255, 255, 255, 255, 255}},
		{"an address", wire.Put(nil, api.Reserved, 6), []byte{1, 0x80, 0xC2, 0, 0, 0}},
		{"a port's number", wire.Put(nil, api.PortId(0x8003), 2), []byte{0x80, 3}},
		{"nothing, of no bytes", wire.Put(nil, uint64(258), 0), nil},
		{"nothing, behind others", wire.Put([]byte{1, 2}, uint64(258), 0), []byte{1, 2}},
		{"nothing, below 0", wire.Put([]byte{1, 2}, uint64(258), -1), []byte{1, 2}},
	} {
		if !bytes.Equal(c.got, c.want) {
			t.Errorf("%s: %x, want %x", c.name, c.got, c.want)
		}
	}
}

// checkPut holds Put of one kind of number against the document, at all
// lists, numbers and sizes.
func checkPut[N wire.Number](t *testing.T, kind string) {
	t.Helper()
	for _, b := range lists() {
		for _, whole := range numbers() {
			n := N(whole)
			for _, size := range append(sizes, belowNothing...) {
				got := wire.Put(b, n, size)
				if want := join(b, lowest(uint64(n), size)); !bytes.Equal(got, want) {
					t.Fatalf("Put(%x, %s %x, %d) = %x, want %x", b, kind, uint64(n), size, got, want)
				}
			}
		}
	}
}

func TestPutOfEachKindOfNumber(t *testing.T) {
	checkPut[uint8](t, "uint8")
	checkPut[uint16](t, "uint16")
	checkPut[uint32](t, "uint32")
	checkPut[uint64](t, "uint64")
	checkPut[kind8](t, "kind8")
	checkPut[kind16](t, "kind16")
	checkPut[kind32](t, "kind32")
	checkPut[kind64](t, "kind64")
	checkPut[api.PortId](t, "PortId")
	checkPut[api.Addr](t, "Addr")
	checkPut[api.BridgeId](t, "BridgeId")
}

func TestPutOfSizesThatItIsNotToldOfDoesNotPanic(t *testing.T) {
	for _, size := range []int{1001, 1 << 16, math.MaxInt32, math.MaxInt - 1, math.MaxInt} {
		if got := wire.Put([]byte{9}, uint16(258), size); len(got) < 1 || got[0] != 9 {
			t.Errorf("Put of the size %d loses what stood ahead", size)
		}
	}
}

func TestPutLeavesWhatIsHandedInAsItWas(t *testing.T) {
	for _, b := range lists() {
		for _, size := range []int{-1, 0, 1, 2, 8, 9, 20} {
			in := roomy(b, 40)
			before := bytes.Clone(all(in))
			wire.Put(in, uint64(0x0102030405060708), size)
			if !bytes.Equal(all(in), before) {
				t.Errorf("Put(%x, .., %d) changes what was handed in: %x", b, size, all(in))
			}
		}
	}
}

func TestPutAnswersNewMemory(t *testing.T) {
	for _, b := range lists() {
		for _, size := range []int{-1, 0, 1, 2, 8, 9, 20} {
			in := roomy(b, 40)
			before := bytes.Clone(all(in))
			first := wire.Put(in, uint64(258), size)
			second := wire.Put(in, uint64(258), size)
			want := bytes.Clone(all(second))
			spoil(first)
			if !bytes.Equal(all(in), before) || !bytes.Equal(all(second), want) {
				t.Errorf("Put(%x, .., %d): what it answers shares memory", b, size)
			}
			spoil(in)
			if !bytes.Equal(all(second), want) {
				t.Errorf("Put(%x, .., %d): what was handed in reaches the answer", b, size)
			}
		}
	}
}

// 3.2: New, Bytes, Num, Short, Rest, Err.

// checkStand tells what is wrong of where a reader stands.
func checkStand(t *testing.T, what string, r *wire.Reader, rest []byte, short bool) {
	t.Helper()
	e := api.OK
	if short {
		e = api.ErrShort
	}
	if got := r.Rest(); !bytes.Equal(got, rest) {
		t.Errorf("%s: Rest() = %x, want %x", what, got, rest)
	}
	if r.Short() != short || r.Err() != e {
		t.Errorf("%s: Short() = %t, Err() = %d, want %t, %d", what, r.Short(), r.Err(), short, e)
	}
}

// checkNothing asks a reader that came to the end too soon for anything.
func checkNothing(t *testing.T, what string, r *wire.Reader, rest []byte) {
	t.Helper()
	counts := append([]int{0, 1, 2, len(rest), len(rest) + 1}, beyondAll...)
	for _, n := range append(counts, belowNothing...) {
		if got := r.Bytes(n); len(got) != 0 {
			t.Errorf("%s, then Bytes(%d) = %x", what, n, got)
		}
		if got := r.Num(n); got != 0 {
			t.Errorf("%s, then Num(%d) = %x", what, n, got)
		}
		checkStand(t, what, r, rest, true)
	}
}

func TestNewStandsAtTheBeginning(t *testing.T) {
	for _, b := range lists() {
		checkStand(t, "New", wire.New(b), b, false)
	}
}

func TestReading(t *testing.T) {
	r := wire.New([]byte{9, 1, 2, 3, 4, 0, 7, 8})
	if got := r.Num(1); got != 9 {
		t.Errorf("Num(1) = %x", got)
	}
	if got := r.Num(4); got != 0x01020304 {
		t.Errorf("Num(4) = %x", got)
	}
	checkStand(t, "behind five", r, []byte{0, 7, 8}, false)
	if got := r.Bytes(2); !bytes.Equal(got, []byte{0, 7}) {
		t.Errorf("Bytes(2) = %x", got)
	}
	checkStand(t, "behind seven", r, []byte{8}, false)
	if got := r.Bytes(1); !bytes.Equal(got, []byte{8}) {
		t.Errorf("Bytes(1) = %x", got)
	}
	checkStand(t, "at the end", r, nil, false)
}

func TestBytesOfEachCount(t *testing.T) {
	for _, b := range lists() {
		for n := range len(b) + 1 {
			r := wire.New(b)
			if got := r.Bytes(n); !bytes.Equal(got, b[:n]) {
				t.Errorf("of %x Bytes(%d) = %x", b, n, got)
			}
			checkStand(t, "Bytes", r, b[n:], false)
		}
	}
}

func TestNumOfEachSize(t *testing.T) {
	for _, b := range lists() {
		for size := range len(b) + 1 {
			r := wire.New(b)
			if got, want := r.Num(size), number(b[:size]); got != want {
				t.Errorf("of %x Num(%d) = %x, want %x", b, size, got, want)
			}
			checkStand(t, "Num", r, b[size:], false)
		}
	}
}

func TestNumOfMoreThanEight(t *testing.T) {
	for _, c := range []struct {
		b    []byte
		want uint64
	}{
		{[]byte{255, 255, 255, 255, 255, 255, 255, 255}, math.MaxUint64},
		{[]byte{1, 0, 0, 0, 0, 0, 0, 0, 0}, 0},
		{[]byte{1, 0, 0, 0, 0, 0, 0, 0, 5}, 5},
		{[]byte{255, 254, 1, 2, 3, 4, 5, 6, 7, 8}, 0x0102030405060708},
	} {
		r := wire.New(c.b)
		if got := r.Num(len(c.b)); got != c.want {
			t.Errorf("of %x Num(%d) = %x, want %x", c.b, len(c.b), got, c.want)
		}
		checkStand(t, "Num", r, nil, false)
	}
}

func TestNothingIsAskedFor(t *testing.T) {
	for _, b := range lists() {
		r := wire.New(b)
		for range 3 {
			if x, n := r.Bytes(0), r.Num(0); len(x) != 0 || n != 0 {
				t.Errorf("of %x Bytes(0) = %x, Num(0) = %x", b, x, n)
			}
			checkStand(t, "nothing is asked for", r, b, false)
		}
		r.Bytes(len(b))
		if x, n := r.Bytes(0), r.Num(0); len(x) != 0 || n != 0 {
			t.Errorf("at the end of %x Bytes(0) = %x, Num(0) = %x", b, x, n)
		}
		checkStand(t, "nothing is asked for, at the end", r, nil, false)
	}
}

func TestBytesThatAreNotThere(t *testing.T) {
	for _, b := range lists() {
		for at := range len(b) + 1 {
			rest := b[at:]
			counts := append([]int{len(rest) + 1, len(rest) + 2}, beyondAll...)
			for _, n := range append(counts, belowNothing...) {
				r := wire.New(b)
				r.Bytes(at)
				if got := r.Bytes(n); len(got) != 0 {
					t.Errorf("of %x Bytes(%d) = %x", rest, n, got)
				}
				checkStand(t, "Bytes too soon", r, rest, true)
			}
		}
	}
}

func TestNumbersThatAreNotThere(t *testing.T) {
	for _, b := range lists() {
		for at := range len(b) + 1 {
			rest := b[at:]
			counts := append([]int{len(rest) + 1, len(rest) + 2}, beyondAll...)
			for _, size := range append(counts, belowNothing...) {
				r := wire.New(b)
				r.Num(at)
				if got := r.Num(size); got != 0 {
					t.Errorf("of %x Num(%d) = %x", rest, size, got)
				}
				checkStand(t, "Num too soon", r, rest, true)
			}
		}
	}
}

func TestNothingIsReadBehindTheEnd(t *testing.T) {
	for _, b := range lists() {
		for _, n := range []int{-1, math.MinInt, len(b) + 1, math.MaxInt} {
			r := wire.New(b)
			r.Bytes(n)
			checkNothing(t, "Bytes too soon", r, b)
			r = wire.New(b)
			r.Num(n)
			checkNothing(t, "Num too soon", r, b)
		}
	}
	r := wire.New([]byte{1, 2, 3, 4, 5})
	r.Num(2)
	r.Bytes(4)
	checkNothing(t, "in the middle", r, []byte{3, 4, 5})
}

func TestNewDoesNotKeepWhatIsHandedIn(t *testing.T) {
	for _, b := range lists() {
		in := roomy(b, 16)
		r := wire.New(in)
		spoil(in)
		checkStand(t, "what was handed in is changed", r, b, false)
		half := len(b) / 2
		if got := r.Bytes(half); !bytes.Equal(got, b[:half]) {
			t.Errorf("of %x Bytes(%d) = %x", b, half, got)
		}
		if got, want := r.Num(len(b)-half), number(b[half:]); got != want {
			t.Errorf("of %x Num(%d) = %x, want %x", b[half:], len(b)-half, got, want)
		}
	}
}

func TestReadingLeavesWhatIsHandedInAsItWas(t *testing.T) {
	for _, b := range lists() {
		in := roomy(b, 16)
		before := bytes.Clone(all(in))
		r := wire.New(in)
		spoil(r.Rest())
		spoil(r.Bytes(len(b) / 2))
		r.Num(len(b) - len(b)/2)
		spoil(r.Bytes(1))
		spoil(r.Rest())
		if !bytes.Equal(all(in), before) {
			t.Errorf("of %x what was handed in is changed: %x", b, all(in))
		}
	}
}

func TestReaderHandsOutNewMemory(t *testing.T) {
	for _, b := range lists() {
		for n := range len(b) + 1 {
			r := wire.New(b)
			whole := r.Rest()
			again := r.Rest()
			part := r.Bytes(n)
			rest := r.Rest()
			spoil(whole)
			if !bytes.Equal(again, b) || !bytes.Equal(part, b[:n]) || !bytes.Equal(rest, b[n:]) {
				t.Fatalf("of %x what Rest answers shares memory", b)
			}
			spoil(part)
			if !bytes.Equal(again, b) || !bytes.Equal(rest, b[n:]) {
				t.Fatalf("of %x what Bytes(%d) answers shares memory", b, n)
			}
			spoil(rest)
			checkStand(t, "answers are changed", r, b[n:], false)
			if got, want := r.Num(len(b)-n), number(b[n:]); got != want {
				t.Fatalf("of %x Num(%d) = %x, want %x", b[n:], len(b)-n, got, want)
			}
		}
	}
}

func TestSpareRoomIsNotRead(t *testing.T) {
	for _, b := range lists() {
		r := wire.New(roomy(b, 16))
		if got := r.Bytes(len(b) + 1); len(got) != 0 {
			t.Errorf("of %x Bytes(%d) = %x", b, len(b)+1, got)
		}
		checkStand(t, "Bytes", r, b, true)
		r = wire.New(roomy(b, 16))
		if got := r.Num(len(b) + 1); got != 0 {
			t.Errorf("of %x Num(%d) = %x", b, len(b)+1, got)
		}
		checkStand(t, "Num", r, b, true)
	}
}

func TestReadersDoNotHangOnEachOther(t *testing.T) {
	b := []byte{1, 2, 3}
	one, other := wire.New(b), wire.New(b)
	one.Num(2)
	one.Num(2)
	checkStand(t, "the one", one, []byte{3}, true)
	checkStand(t, "the other one", other, b, false)
}

// 3.3: what is put is read as it was.

// checkRead puts numbers of one kind, which has so many bytes of its own, and
// reads them, of each size that has room for them.
func checkRead[N wire.Number](t *testing.T, kind string, own int) {
	t.Helper()
	for _, b := range lists() {
		for _, whole := range numbers() {
			n := N(whole)
			for _, size := range []int{own, own + 1, 8, 9, 16, 1000} {
				r := wire.New(wire.Put(b, n, size))
				if got := r.Bytes(len(b)); !bytes.Equal(got, b) {
					t.Fatalf("%s %x of the size %d: ahead of it %x, want %x", kind, uint64(n), size, got, b)
				}
				if got := r.Num(size); got != uint64(n) {
					t.Fatalf("%s %x of the size %d is read as %x", kind, uint64(n), size, got)
				}
				checkStand(t, kind, r, nil, false)
			}
		}
	}
}

func TestWhatIsPutIsReadAsItWas(t *testing.T) {
	checkRead[uint8](t, "uint8", 1)
	checkRead[uint16](t, "uint16", 2)
	checkRead[uint32](t, "uint32", 4)
	checkRead[uint64](t, "uint64", 8)
	checkRead[kind8](t, "kind8", 1)
	checkRead[kind16](t, "kind16", 2)
	checkRead[kind32](t, "kind32", 4)
	checkRead[kind64](t, "kind64", 8)
	checkRead[api.PortId](t, "PortId", 2)
	checkRead[api.Addr](t, "Addr", 8)
	checkRead[api.BridgeId](t, "BridgeId", 8)
}

func TestOfFewerBytesTheLowestAreRead(t *testing.T) {
	for _, n := range numbers() {
		for size := range 8 {
			r := wire.New(wire.Put(nil, n, size))
			if got, want := r.Num(size), n%(1<<(8*size)); got != want {
				t.Errorf("%x of the size %d is read as %x, want %x", n, size, got, want)
			}
			checkStand(t, "Num", r, nil, false)
		}
	}
}

func TestManyOneBehindTheOther(t *testing.T) {
	var b []byte
	for _, n := range numbers() {
		b = wire.Put(b, n, 8)
		b = wire.Put(b, uint32(n), 4)
		b = wire.Put(b, uint16(n), 2)
		b = wire.Put(b, uint8(n), 1)
	}
	r := wire.New(b)
	for _, n := range numbers() {
		if x, y, z, u := r.Num(8), r.Num(4), r.Num(2), r.Num(1); x != n || y != uint64(uint32(n)) || z != uint64(uint16(n)) || u != uint64(uint8(n)) {
			t.Errorf("%x is read as %x, %x, %x, %x", n, x, y, z, u)
		}
	}
	checkStand(t, "many", r, nil, false)
}

func FuzzPutAndRead(f *testing.F) {
	f.Add([]byte{}, uint64(258), 3)
	f.Add([]byte{9}, uint64(math.MaxUint64), 9)
	f.Add([]byte{1, 2}, uint64(1), -1)
	f.Fuzz(func(t *testing.T, b []byte, n uint64, size int) {
		if size > 1000 {
			size %= 1001
		}
		put := wire.Put(b, n, size)
		if want := join(b, lowest(n, size)); !bytes.Equal(put, want) {
			t.Fatalf("Put(%x, %x, %d) = %x, want %x", b, n, size, put, want)
		}
		r := wire.New(put)
		if got := r.Bytes(len(b)); !bytes.Equal(got, b) {
			t.Fatalf("ahead of it %x, want %x", got, b)
		}
		if got, want := r.Num(size), number(lowest(n, size)); got != want {
			t.Fatalf("%x of the size %d is read as %x, want %x", n, size, got, want)
		}
		checkStand(t, "Num", r, nil, size < 0)
	})
}
