package frame_test

import (
	"bytes"
	"encoding/binary"
	"math"
	"testing"

	"treeline/api"
	"treeline/frame"
)

// head is what stands ahead of a Bpdu, as the chapter tells it.
var head = []byte{0x42, 0x42, 0x03}

// kinds are those at both sides of each edge of lengths and types.
var kinds = []uint16{0, 1, 2, 3, 255, 256, 258, 1499, 1500, 1501, 1502, 1534, 1535, 1536, 1537, 0x0800, 0x8000, 65534, 65535}

// counts are those of bytes of data, likewise.
var counts = []int{0, 1, 2, 3, 255, 256, 258, 1499, 1500, 1501, 1502, 1535, 1536, 1537, 65535, 65536}

// addresses are such that a bit or a byte which goes astray is seen.
var addresses = []api.Addr{0, 1, 258, 1 << 40, 1<<47 + 1, 0x010203040506, 0xFEDCBA987654, api.Reserved, api.Broadcast}

// noAddresses are numbers that are none.
var noAddresses = []api.Addr{1 << 48, 1<<48 + 1, 1<<48 | api.Reserved, 1 << 63, math.MaxUint64}

// some answers so many bytes, of which neighbours differ.
func some(n int) []byte {
	b := make([]byte, n)
	for i := range b {
		b[i] = byte(37*i + i/256 + 11)
	}
	return b
}

// all answers what a list has, its spare room included.
func all(b []byte) []byte {
	return b[:cap(b)]
}

// spoil turns over every bit of a list, its spare room included.
func spoil(b []byte) {
	for i := range all(b) {
		all(b)[i] ^= 0xFF
	}
}

// roomy answers a list like b with spare room of bytes 0xA5 behind it.
func roomy(b []byte, spare int) []byte {
	whole := append(bytes.Clone(b), bytes.Repeat([]byte{0xA5}, spare)...)
	return whole[:len(b)]
}

// layout works a frame's bytes out anew.
func layout(to, from api.Addr, kind uint16, data []byte) []byte {
	var room [8]byte
	binary.BigEndian.PutUint64(room[:], uint64(to))
	b := append([]byte{}, room[2:]...)
	binary.BigEndian.PutUint64(room[:], uint64(from))
	b = append(b, room[2:]...)
	b = append(b, byte(kind/256), byte(kind%256))
	return append(b, data...)
}

// wrong tells Check's error anew, from the chapter's words.
func wrong(f api.Frame) api.Errno {
	if f.To>>48 != 0 || f.From>>48 != 0 {
		return api.ErrArg
	}
	if len(f.Data) >= 1501 {
		return api.ErrLong
	}
	if f.Kind > 1500 && f.Kind < 1536 || f.Kind <= 1500 && int(f.Kind) != len(f.Data) {
		return api.ErrForm
	}
	return api.OK
}

// alike tells whether a frame is of these parts.
func alike(f api.Frame, to, from api.Addr, kind uint16, data []byte) bool {
	return f.To == to && f.From == from && f.Kind == kind && string(f.Data) == string(data)
}

// nothing tells whether a frame is the zero one.
func nothing(f api.Frame) bool {
	return f.To == 0 && f.From == 0 && f.Kind == 0 && len(f.Data) == 0
}

// frames answers frames of all sorts: those that may be, and those that may not.
func frames() []api.Frame {
	list := []api.Frame{
		{},
		{To: api.Reserved, From: 7, Kind: 3, Data: head},
		{To: api.Reserved, From: 7, Kind: 7, Data: append(bytes.Clone(head), 9, 8, 7, 6)},
		{To: 1 << 48, From: math.MaxUint64, Kind: 1501, Data: some(1501)},
		{To: api.Broadcast, From: 0x0203, Kind: 0x0800, Data: []byte{}},
	}
	for _, kind := range kinds {
		for _, n := range []int{0, 1, 3, 258, 1500, 1501} {
			list = append(list, api.Frame{To: 0x010203040506, From: 0x0A0B0C0D0E0F, Kind: kind, Data: some(n)})
		}
	}
	return list
}

// 4.1: Check.

func TestCheck(t *testing.T) {
	for _, c := range []struct {
		name string
		f    api.Frame
		want api.Errno
	}{
		{"the zero frame", api.Frame{}, api.OK},
		{"no data, not even a list", api.Frame{To: 1, From: 2}, api.OK},
		{"no data", api.Frame{To: 1, From: 2, Data: []byte{}}, api.OK},
		{"a length", api.Frame{To: 1, From: 2, Kind: 3, Data: some(3)}, api.OK},
		{"the greatest length", api.Frame{Kind: 1500, Data: some(1500)}, api.OK},
		{"a type without data", api.Frame{Kind: 0x0800}, api.OK},
		{"the least type", api.Frame{Kind: 1536, Data: some(1500)}, api.OK},
		{"the greatest type", api.Frame{Kind: 65535, Data: some(1)}, api.OK},
		{"from several ones and to 0", api.Frame{From: api.Broadcast}, api.OK},
		{"to the highest address", api.Frame{To: api.Broadcast}, api.OK},
		{"a To that is no address", api.Frame{To: 1 << 48}, api.ErrArg},
		{"a From that is no address", api.Frame{From: 1 << 48}, api.ErrArg},
		{"both are none", api.Frame{To: math.MaxUint64, From: math.MaxUint64}, api.ErrArg},
		{"too much data behind a type", api.Frame{Kind: 0x0800, Data: some(1501)}, api.ErrLong},
		{"one less than the length", api.Frame{Kind: 3, Data: some(2)}, api.ErrForm},
		{"one more than the length", api.Frame{Kind: 3, Data: some(4)}, api.ErrForm},
		{"data, and the length 0", api.Frame{Kind: 0, Data: some(1)}, api.ErrForm},
		{"a length, and no data", api.Frame{Kind: 1}, api.ErrForm},
		{"the greatest length, one less", api.Frame{Kind: 1500, Data: some(1499)}, api.ErrForm},
		{"the least that is neither", api.Frame{Kind: 1501, Data: some(1500)}, api.ErrForm},
		{"the greatest that is neither", api.Frame{Kind: 1535}, api.ErrForm},
	} {
		if got := frame.Check(c.f); got != c.want {
			t.Errorf("%s: Check = %d, want %d", c.name, got, c.want)
		}
	}
}

func TestCheckTellsTheFirstError(t *testing.T) {
	for _, c := range []struct {
		name string
		f    api.Frame
		want api.Errno
	}{
		{"To and data", api.Frame{To: 1 << 48, Kind: 0x0800, Data: some(1501)}, api.ErrArg},
		{"From and data", api.Frame{From: 1 << 48, Kind: 0x0800, Data: some(1501)}, api.ErrArg},
		{"To and Kind", api.Frame{To: 1 << 48, Kind: 1501}, api.ErrArg},
		{"From and Kind", api.Frame{From: 1 << 48, Kind: 1501}, api.ErrArg},
		{"From and length", api.Frame{From: 1 << 48, Kind: 5}, api.ErrArg},
		{"all", api.Frame{To: 1 << 48, From: 1 << 48, Kind: 1501, Data: some(1501)}, api.ErrArg},
		{"data and Kind, which tells so many", api.Frame{Kind: 1501, Data: some(1501)}, api.ErrLong},
		{"data and Kind", api.Frame{Kind: 1535, Data: some(2000)}, api.ErrLong},
		{"data and length", api.Frame{Kind: 1500, Data: some(1501)}, api.ErrLong},
		{"data whose count is 0 by 2^16", api.Frame{Kind: 0, Data: some(65536)}, api.ErrLong},
	} {
		if got := frame.Check(c.f); got != c.want {
			t.Errorf("%s: Check = %d, want %d", c.name, got, c.want)
		}
	}
}

func TestCheckAndPutOfEachKind(t *testing.T) {
	for _, n := range counts {
		data := some(n)
		for kind := range 1 << 16 {
			f := api.Frame{To: 1, From: 2, Kind: uint16(kind), Data: data}
			if got, want := frame.Check(f), wrong(f); got != want {
				t.Fatalf("Check of the Kind %d, of %d bytes = %d, want %d", kind, n, got, want)
			}
		}
		for _, kind := range append(kinds, uint16(n)) {
			checkPut(t, api.Frame{To: 1, From: 2, Kind: kind, Data: data})
		}
	}
}

func TestCheckAndPutOfEachLength(t *testing.T) {
	for n := range 1502 {
		checkPut(t, api.Frame{To: 1, From: 2, Kind: uint16(n), Data: some(n)})
		checkPut(t, api.Frame{To: 1, From: 2, Kind: 1536, Data: some(n)})
	}
}

func TestCheckAndPutOfEachAddress(t *testing.T) {
	every := append(append([]api.Addr{}, addresses...), noAddresses...)
	for i := range 64 {
		every = append(every, 1<<i, 1<<i-1)
	}
	for _, a := range every {
		for _, b := range append(addresses, noAddresses...) {
			for _, kind := range []uint16{2, 3, 1501, 0x0800} {
				checkPut(t, api.Frame{To: a, From: b, Kind: kind, Data: some(2)})
				checkPut(t, api.Frame{To: b, From: a, Kind: kind, Data: some(2)})
			}
		}
	}
}

// 4.1: Put.

// checkPut holds Check and Put of a frame against the chapter's words.
func checkPut(t *testing.T, f api.Frame) {
	t.Helper()
	want := wrong(f)
	if got := frame.Check(f); got != want {
		t.Fatalf("Check(%x, %x, %d, %d bytes) = %d, want %d", f.To, f.From, f.Kind, len(f.Data), got, want)
	}
	b, e := frame.Put(f)
	if e != want {
		t.Fatalf("Put(%x, %x, %d, %d bytes): %d, want %d", f.To, f.From, f.Kind, len(f.Data), e, want)
	}
	if e != api.OK {
		if len(b) != 0 {
			t.Fatalf("Put(%x, %x, %d, %d bytes): %d bytes beside the error %d", f.To, f.From, f.Kind, len(f.Data), len(b), e)
		}
		return
	}
	if whole := layout(f.To, f.From, f.Kind, f.Data); !bytes.Equal(b, whole) {
		t.Fatalf("Put(%x, %x, %d, %d bytes) = %x, want %x", f.To, f.From, f.Kind, len(f.Data), b, whole)
	}
}

func TestPut(t *testing.T) {
	for _, c := range []struct {
		name string
		f    api.Frame
		want []byte
	}{
		{"the example", api.Frame{To: 1, From: 2}, []byte{0, 0, 0, 0, 0, 1, 0, 0, 0, 0, 0, 2, 0, 0}},
		{"a type", api.Frame{To: api.Broadcast, From: 0x010203040506, Kind: 0x0806, Data: []byte{7, 8}},
			[]byte{255, 255, 255, 255, 255, 255, 1, 2, 3, 4, 5, 6, 8, 6, 7, 8}},
		{"a length", api.Frame{To: api.Reserved, From: 258, Kind: 3, Data: []byte{9, 0, 1}},
			[]byte{1, 0x80, 0xC2, 0, 0, 0, 0, 0, 0, 0, 1, 2, 0, 3, 9, 0, 1}},
	} {
		if got, e := frame.Put(c.f); !bytes.Equal(got, c.want) || e != api.OK {
			t.Errorf("%s: Put = %x, %d, want %x", c.name, got, e, c.want)
		}
	}
}

// 4.2: Get.

// checkGet holds Get against the chapter's words, of bytes that are those of
// the addresses, of a Kind, and these behind it.
func checkGet(t *testing.T, to, from api.Addr, kind uint16, left []byte) {
	t.Helper()
	want, data := api.OK, left
	switch {
	case kind <= 1500 && len(left) < int(kind):
		want = api.ErrShort
	case kind <= 1500:
		data = left[:kind]
	case kind <= 1535:
		want = api.ErrForm
	case len(left) > 1500:
		want = api.ErrLong
	}
	f, e := frame.Get(layout(to, from, kind, left))
	if e != want {
		t.Fatalf("Get of the Kind %d, %d bytes behind it: %d, want %d", kind, len(left), e, want)
	}
	if e != api.OK && !nothing(f) {
		t.Fatalf("Get of the Kind %d, %d bytes behind it: a frame beside the error %d", kind, len(left), e)
	}
	if e == api.OK && !alike(f, to, from, kind, data) {
		t.Fatalf("Get of %x, %x, the Kind %d, %d bytes behind it = %x, %x, %d, %x", to, from, kind, len(left), f.To, f.From, f.Kind, f.Data)
	}
}

func TestGet(t *testing.T) {
	for _, c := range []struct {
		name string
		b    []byte
		want api.Frame
	}{
		{"the example", []byte{0, 0, 0, 0, 0, 1, 0, 0, 0, 0, 0, 2, 0, 0}, api.Frame{To: 1, From: 2}},
		{"a length", []byte{1, 2, 3, 4, 5, 6, 7, 8, 9, 10, 11, 12, 0, 2, 5, 6}, api.Frame{To: 0x010203040506, From: 0x0708090A0B0C, Kind: 2, Data: []byte{5, 6}}},
		{"more than the length", []byte{0, 0, 0, 0, 0, 1, 0, 0, 0, 0, 0, 2, 0, 2, 5, 6, 7}, api.Frame{To: 1, From: 2, Kind: 2, Data: []byte{5, 6}}},
		{"bytes behind the length 0", []byte{0, 0, 0, 0, 0, 1, 0, 0, 0, 0, 0, 2, 0, 0, 5, 6, 7}, api.Frame{To: 1, From: 2}},
		{"a type", []byte{255, 255, 255, 255, 255, 255, 0, 0, 0, 0, 0, 2, 8, 6, 5, 6, 7}, api.Frame{To: api.Broadcast, From: 2, Kind: 0x0806, Data: []byte{5, 6, 7}}},
		{"a type, and nothing", []byte{0, 0, 0, 0, 0, 1, 255, 255, 255, 255, 255, 255, 6, 0}, api.Frame{To: 1, From: api.Broadcast, Kind: 1536}},
	} {
		f, e := frame.Get(c.b)
		if e != api.OK || !alike(f, c.want.To, c.want.From, c.want.Kind, c.want.Data) {
			t.Errorf("%s: Get = %x, %x, %d, %x, %d", c.name, f.To, f.From, f.Kind, f.Data, e)
		}
	}
}

func TestGetOfTooFewBytes(t *testing.T) {
	for _, kind := range kinds {
		whole := layout(0x010203040506, 0x0708090A0B0C, kind, some(2000))
		for n := range 14 {
			if f, e := frame.Get(whole[:n]); e != api.ErrShort || !nothing(f) {
				t.Errorf("Get of %d bytes = %v, %d", n, f, e)
			}
		}
	}
	if f, e := frame.Get(nil); e != api.ErrShort || !nothing(f) {
		t.Errorf("Get(nil) = %v, %d", f, e)
	}
}

func TestGetOfJustTheHead(t *testing.T) {
	for kind := range 1 << 16 {
		checkGet(t, 1, 2, uint16(kind), nil)
	}
}

func TestGetOfEachKind(t *testing.T) {
	for _, n := range counts {
		left := some(n)
		for _, kind := range kinds {
			checkGet(t, 0x010203040506, 0x0708090A0B0C, kind, left)
		}
	}
}

func TestGetOfEachLength(t *testing.T) {
	for n := range 1501 {
		for _, left := range []int{n - 1, n, n + 1, n + 2000} {
			if left >= 0 {
				checkGet(t, 1, 2, uint16(n), some(left))
			}
		}
	}
}

func TestGetOfATypeAndEachCount(t *testing.T) {
	for n := range 1503 {
		checkGet(t, 1, 2, 1536, some(n))
	}
}

func TestGetOfKindsThatAreNeither(t *testing.T) {
	for kind := 1501; kind <= 1535; kind++ {
		for _, n := range []int{0, 1, 1499, 1500, 1501, kind - 1, kind, kind + 1, 3000} {
			checkGet(t, 1, 2, uint16(kind), some(n))
		}
	}
}

func TestGetOfEachAddress(t *testing.T) {
	for _, to := range addresses {
		for _, from := range addresses {
			checkGet(t, to, from, 2, some(3))
			checkGet(t, to, from, 0x0800, some(3))
		}
	}
}

func TestGetDoesNotReadSpareRoom(t *testing.T) {
	whole := layout(1, 2, 3, some(3))
	for n := range len(whole) {
		if f, e := frame.Get(whole[:n]); e != api.ErrShort || !nothing(f) {
			t.Errorf("Get of the first %d bytes = %v, %d", n, f, e)
		}
	}
	typed := layout(1, 2, 0x0800, some(3))
	for n := 14; n <= len(typed); n++ {
		if f, e := frame.Get(typed[:n]); e != api.OK || !alike(f, 1, 2, 0x0800, some(3)[:n-14]) {
			t.Errorf("Get of the first %d bytes = %v, %d", n, f, e)
		}
	}
}

// 4.3: Wrap.

func TestWrap(t *testing.T) {
	f := frame.Wrap(0x010203040506, []byte{5, 6})
	if !alike(f, 0x0180C2000000, 0x010203040506, 5, []byte{0x42, 0x42, 3, 5, 6}) {
		t.Errorf("Wrap = %x, %x, %d, %x", f.To, f.From, f.Kind, f.Data)
	}
	for _, b := range [][]byte{nil, {}} {
		f := frame.Wrap(7, b)
		if !alike(f, 0x0180C2000000, 7, 3, []byte{0x42, 0x42, 3}) {
			t.Errorf("Wrap of nothing = %x, %x, %d, %x", f.To, f.From, f.Kind, f.Data)
		}
	}
}

func TestWrapOfEachCount(t *testing.T) {
	for n := range 1498 {
		b := some(n)
		f := frame.Wrap(258, b)
		if !alike(f, api.Reserved, 258, uint16(n+3), append(bytes.Clone(head), b...)) {
			t.Fatalf("Wrap of %d bytes = %x, %x, %d, %x", n, f.To, f.From, f.Kind, f.Data)
		}
		if e := frame.Check(f); e != api.OK {
			t.Fatalf("Wrap of %d bytes may not be: %d", n, e)
		}
	}
}

func TestWrapFromEachAddress(t *testing.T) {
	for _, from := range addresses {
		f := frame.Wrap(from, []byte{1})
		if !alike(f, api.Reserved, from, 4, append(bytes.Clone(head), 1)) || frame.Check(f) != api.OK {
			t.Errorf("Wrap from %x = %x, %x, %d, %x", from, f.To, f.From, f.Kind, f.Data)
		}
	}
}

func TestWrapOfMoreThanItIsToldOfDoesNotPanic(t *testing.T) {
	for _, n := range []int{1498, 1499, 1533, 65532, 65533, 65534, 70000} {
		if e := frame.Check(frame.Wrap(7, some(n))); e != api.ErrLong {
			t.Errorf("Check of Wrap of %d bytes = %d", n, e)
		}
	}
}

// 4.3: Open.

func TestOpen(t *testing.T) {
	for _, c := range []struct {
		name string
		f    api.Frame
		want []byte
		ok   bool
	}{
		{"some bytes", api.Frame{To: api.Reserved, From: 7, Kind: 5, Data: []byte{0x42, 0x42, 3, 5, 6}}, []byte{5, 6}, true},
		{"no bytes", api.Frame{To: api.Reserved, From: 7, Kind: 3, Data: []byte{0x42, 0x42, 3}}, nil, true},
		{"the same once more", api.Frame{To: api.Reserved, Kind: 6, Data: []byte{0x42, 0x42, 3, 0x42, 0x42, 3}}, head, true},
		{"from several ones", api.Frame{To: api.Reserved, From: api.Broadcast, Kind: 4, Data: []byte{0x42, 0x42, 3, 1}}, []byte{1}, true},
		{"the most bytes", api.Frame{To: api.Reserved, Kind: 1500, Data: append(bytes.Clone(head), some(1497)...)}, some(1497), true},
		{"the zero frame", api.Frame{}, nil, false},
		{"no data", api.Frame{To: api.Reserved}, nil, false},
		{"one byte", api.Frame{To: api.Reserved, Kind: 1, Data: []byte{0x42}}, nil, false},
		{"two bytes", api.Frame{To: api.Reserved, Kind: 2, Data: []byte{0x42, 0x42}}, nil, false},
		{"two bytes, the last one's", api.Frame{To: api.Reserved, Kind: 2, Data: []byte{0x42, 3}}, nil, false},
		{"another first byte", api.Frame{To: api.Reserved, Kind: 4, Data: []byte{0x41, 0x42, 3, 1}}, nil, false},
		{"another second byte", api.Frame{To: api.Reserved, Kind: 4, Data: []byte{0x42, 0x43, 3, 1}}, nil, false},
		{"another third byte", api.Frame{To: api.Reserved, Kind: 4, Data: []byte{0x42, 0x42, 2, 1}}, nil, false},
		{"42 of base ten", api.Frame{To: api.Reserved, Kind: 4, Data: []byte{42, 42, 3, 1}}, nil, false},
		{"a byte later", api.Frame{To: api.Reserved, Kind: 5, Data: []byte{0, 0x42, 0x42, 3, 1}}, nil, false},
		{"to everybody", api.Frame{To: api.Broadcast, Kind: 4, Data: []byte{0x42, 0x42, 3, 1}}, nil, false},
		{"to another reserved address", api.Frame{To: api.Reserved + 1, Kind: 4, Data: []byte{0x42, 0x42, 3, 1}}, nil, false},
		{"to the last reserved address", api.Frame{To: api.Reserved + 15, Kind: 4, Data: []byte{0x42, 0x42, 3, 1}}, nil, false},
		{"to one below", api.Frame{To: api.Reserved - 1, Kind: 4, Data: []byte{0x42, 0x42, 3, 1}}, nil, false},
		{"to no address", api.Frame{To: 1<<48 | api.Reserved, Kind: 4, Data: []byte{0x42, 0x42, 3, 1}}, nil, false},
		{"a type", api.Frame{To: api.Reserved, Kind: 0x0800, Data: []byte{0x42, 0x42, 3, 1}}, nil, false},
	} {
		got, ok := frame.Open(c.f)
		if ok != c.ok || !bytes.Equal(got, c.want) {
			t.Errorf("%s: Open = %x, %t, want %x, %t", c.name, got, ok, c.want, c.ok)
		}
	}
}

func TestOpenOfEachKind(t *testing.T) {
	data := append(bytes.Clone(head), 5, 6)
	for kind := range 1 << 16 {
		got, ok := frame.Open(api.Frame{To: api.Reserved, From: 7, Kind: uint16(kind), Data: data})
		if want := kind <= 1500; ok != want || ok && !bytes.Equal(got, data[3:]) || !ok && len(got) != 0 {
			t.Fatalf("Open of the Kind %d = %x, %t", kind, got, ok)
		}
	}
}

func TestOpenOfEachBeginning(t *testing.T) {
	for at := range 3 {
		for c := range 256 {
			data := append(bytes.Clone(head), 5, 6)
			data[at] = byte(c)
			_, ok := frame.Open(api.Frame{To: api.Reserved, From: 7, Kind: 5, Data: data})
			if want := byte(c) == head[at]; ok != want {
				t.Errorf("Open of %x = %t", data, ok)
			}
		}
	}
}

// Frames that may not be are opened, if they are all that a frame which
// bridges tell each other has to be.
func TestOpenOfFramesThatMayNotBe(t *testing.T) {
	for _, c := range []struct {
		name string
		f    api.Frame
		want []byte
	}{
		{"from no address", api.Frame{To: api.Reserved, From: 1 << 48, Kind: 4, Data: append(bytes.Clone(head), 1)}, []byte{1}},
		{"a length of fewer", api.Frame{To: api.Reserved, Kind: 0, Data: append(bytes.Clone(head), 1)}, []byte{1}},
		{"a length of more", api.Frame{To: api.Reserved, Kind: 1500, Data: append(bytes.Clone(head), 1)}, []byte{1}},
		{"too much data", api.Frame{To: api.Reserved, Kind: 1500, Data: append(bytes.Clone(head), some(1498)...)}, some(1498)},
	} {
		if got, ok := frame.Open(c.f); !ok || !bytes.Equal(got, c.want) {
			t.Errorf("%s: Open = %x, %t", c.name, got, ok)
		}
	}
}

func TestOpenDoesNotReadSpareRoom(t *testing.T) {
	whole := append(bytes.Clone(head), 5, 6)
	for n := range 3 {
		if got, ok := frame.Open(api.Frame{To: api.Reserved, Kind: uint16(n), Data: whole[:n]}); ok || len(got) != 0 {
			t.Errorf("Open of %d bytes = %x, %t", n, got, ok)
		}
	}
	if got, ok := frame.Open(api.Frame{To: api.Reserved, Kind: 4, Data: whole[:4]}); !ok || !bytes.Equal(got, []byte{5}) {
		t.Errorf("Open of four bytes = %x, %t", got, ok)
	}
}

// 4.3: Same.

func TestSame(t *testing.T) {
	f := api.Frame{To: 1, From: 2, Kind: 3, Data: []byte{4, 5, 6}}
	for _, c := range []struct {
		name string
		g    api.Frame
		want bool
	}{
		{"itself", f, true},
		{"in other memory", api.Frame{To: 1, From: 2, Kind: 3, Data: []byte{4, 5, 6}}, true},
		{"with spare room", api.Frame{To: 1, From: 2, Kind: 3, Data: roomy([]byte{4, 5, 6}, 9)}, true},
		{"another To", api.Frame{To: 7, From: 2, Kind: 3, Data: []byte{4, 5, 6}}, false},
		{"another To, above 2^48", api.Frame{To: 1<<48 | 1, From: 2, Kind: 3, Data: []byte{4, 5, 6}}, false},
		{"another From", api.Frame{To: 1, From: 7, Kind: 3, Data: []byte{4, 5, 6}}, false},
		{"another From, above 2^48", api.Frame{To: 1, From: 1<<48 | 2, Kind: 3, Data: []byte{4, 5, 6}}, false},
		{"To and From changed", api.Frame{To: 2, From: 1, Kind: 3, Data: []byte{4, 5, 6}}, false},
		{"another Kind", api.Frame{To: 1, From: 2, Kind: 4, Data: []byte{4, 5, 6}}, false},
		{"another first byte", api.Frame{To: 1, From: 2, Kind: 3, Data: []byte{7, 5, 6}}, false},
		{"another last byte", api.Frame{To: 1, From: 2, Kind: 3, Data: []byte{4, 5, 7}}, false},
		{"fewer bytes", api.Frame{To: 1, From: 2, Kind: 3, Data: []byte{4, 5}}, false},
		{"more bytes", api.Frame{To: 1, From: 2, Kind: 3, Data: []byte{4, 5, 6, 0}}, false},
		{"no bytes", api.Frame{To: 1, From: 2, Kind: 3}, false},
	} {
		if frame.Same(f, c.g) != c.want || frame.Same(c.g, f) != c.want {
			t.Errorf("%s: Same = %t, %t, want %t", c.name, frame.Same(f, c.g), frame.Same(c.g, f), c.want)
		}
	}
}

func TestSameOfNoData(t *testing.T) {
	none, empty := api.Frame{To: 1, From: 2}, api.Frame{To: 1, From: 2, Data: []byte{}}
	if !frame.Same(none, empty) || !frame.Same(empty, none) || !frame.Same(none, none) || !frame.Same(api.Frame{}, api.Frame{}) {
		t.Errorf("Same: no list and a list without elements are one")
	}
}

func TestSameOfAllSorts(t *testing.T) {
	for i, f := range frames() {
		for j, g := range frames() {
			if want := alike(f, g.To, g.From, g.Kind, g.Data); frame.Same(f, g) != want {
				t.Errorf("Same of the frames %d and %d = %t", i, j, !want)
			}
		}
	}
}

// 4.3: Copy.

func TestCopy(t *testing.T) {
	for i, f := range frames() {
		if g := frame.Copy(f); !alike(g, f.To, f.From, f.Kind, f.Data) {
			t.Errorf("Copy of the frame %d = %x, %x, %d, %x", i, g.To, g.From, g.Kind, g.Data)
		}
	}
}

// 4.4: what is put is read as it was; what is wrapped is opened as it was.

// checkThereAndBack puts a frame that may be, and reads it; then with bytes
// behind it, if its Kind is a length.
func checkThereAndBack(t *testing.T, f api.Frame) {
	t.Helper()
	b, e := frame.Put(f)
	if e != api.OK {
		t.Fatalf("Put(%x, %x, %d, %d bytes): %d", f.To, f.From, f.Kind, len(f.Data), e)
	}
	g, e := frame.Get(b)
	if e != api.OK || !alike(g, f.To, f.From, f.Kind, f.Data) || !frame.Same(f, g) {
		t.Fatalf("%x, %x, %d, %x is read as %x, %x, %d, %x, %d", f.To, f.From, f.Kind, f.Data, g.To, g.From, g.Kind, g.Data, e)
	}
	if f.Kind <= 1500 {
		if g, e := frame.Get(append(b, 7, 7, 7)); e != api.OK || !frame.Same(f, g) {
			t.Fatalf("with bytes behind it %d is read as %d, %x, %d", f.Kind, g.Kind, g.Data, e)
		}
	}
}

func TestWhatIsPutIsReadAsItWas(t *testing.T) {
	for n := range 1501 {
		checkThereAndBack(t, api.Frame{To: 0x010203040506, From: 258, Kind: uint16(n), Data: some(n)})
		checkThereAndBack(t, api.Frame{To: 258, From: 0x010203040506, Kind: 1536 + uint16(n), Data: some(n)})
	}
	for kind := 1536; kind < 1<<16; kind++ {
		checkThereAndBack(t, api.Frame{To: 1, From: 2, Kind: uint16(kind), Data: []byte{9}})
	}
	for _, to := range addresses {
		for _, from := range addresses {
			checkThereAndBack(t, api.Frame{To: to, From: from, Kind: 2, Data: []byte{0, 255}})
		}
	}
}

func TestWhatIsWrappedIsOpenedAsItWas(t *testing.T) {
	for n := range 1498 {
		f := frame.Wrap(258, some(n))
		if got, ok := frame.Open(f); !ok || !bytes.Equal(got, some(n)) {
			t.Fatalf("%d bytes are opened as %x, %t", n, got, ok)
		}
		b, _ := frame.Put(f)
		g, _ := frame.Get(append(b, 1, 2, 3))
		if got, ok := frame.Open(g); !ok || !bytes.Equal(got, some(n)) {
			t.Fatalf("%d bytes, put and read, are opened as %x, %t", n, got, ok)
		}
	}
	for _, from := range append(addresses, noAddresses...) {
		if got, ok := frame.Open(frame.Wrap(from, []byte{5, 6})); !ok || !bytes.Equal(got, []byte{5, 6}) {
			t.Errorf("from %x: opened as %x, %t", from, got, ok)
		}
	}
}

// Rule 4: what is handed in is neither changed nor kept, what is handed out
// is new memory.

func TestWhatIsHandedInIsNotChanged(t *testing.T) {
	for i, f := range frames() {
		f.Data = roomy(f.Data, 40)
		before := bytes.Clone(all(f.Data))
		frame.Check(f)
		frame.Put(f)
		frame.Get(f.Data)
		frame.Wrap(7, f.Data)
		frame.Open(f)
		frame.Same(f, f)
		frame.Copy(f)
		if !bytes.Equal(all(f.Data), before) {
			t.Errorf("the frame %d: what was handed in is changed", i)
		}
	}
	for _, kind := range kinds {
		b := roomy(layout(1, 2, kind, some(20)), 40)
		before := bytes.Clone(all(b))
		frame.Get(b)
		if !bytes.Equal(all(b), before) {
			t.Errorf("Get of the Kind %d changes what was handed in", kind)
		}
	}
}

// checkMemory asks for an answer several times, of bytes with spare room
// behind them, and tells whether the answers share memory with these, or with
// each other.
func checkMemory(t *testing.T, what string, in []byte, ask func(b []byte) []byte) {
	t.Helper()
	b := roomy(in, 40)
	before := bytes.Clone(all(b))
	first, second := ask(b), ask(b)
	want := bytes.Clone(second)
	spoil(first)
	if !bytes.Equal(all(b), before) {
		t.Errorf("%s: a change of the answer reaches what was handed in", what)
	}
	if !bytes.Equal(second, want) || !bytes.Equal(ask(b), want) {
		t.Errorf("%s: a change of the answer reaches another answer", what)
	}
	spoil(b)
	if !bytes.Equal(second, want) {
		t.Errorf("%s: a change of what was handed in reaches the answer", what)
	}
}

func TestWhatIsHandedOutIsNewMemory(t *testing.T) {
	for _, n := range []int{0, 1, 3, 20, 1497} {
		data := some(n)
		wrapped := append(bytes.Clone(head), data...)
		checkMemory(t, "Put of a length", data, func(b []byte) []byte {
			out, _ := frame.Put(api.Frame{To: 1, From: 2, Kind: uint16(len(b)), Data: b})
			return out
		})
		checkMemory(t, "Put of a type", data, func(b []byte) []byte {
			out, _ := frame.Put(api.Frame{To: 1, From: 2, Kind: 0x0800, Data: b})
			return out
		})
		checkMemory(t, "Get of a length", layout(1, 2, uint16(n), data), func(b []byte) []byte {
			f, _ := frame.Get(b)
			return f.Data
		})
		checkMemory(t, "Get of a length, bytes behind it", layout(1, 2, uint16(n/2), data), func(b []byte) []byte {
			f, _ := frame.Get(b)
			return f.Data
		})
		checkMemory(t, "Get of a type", layout(1, 2, 0x0800, data), func(b []byte) []byte {
			f, _ := frame.Get(b)
			return f.Data
		})
		checkMemory(t, "Wrap", data, func(b []byte) []byte {
			return frame.Wrap(7, b).Data
		})
		checkMemory(t, "Open", wrapped, func(b []byte) []byte {
			out, _ := frame.Open(api.Frame{To: api.Reserved, From: 7, Kind: uint16(len(b)), Data: b})
			return out
		})
		checkMemory(t, "Copy", data, func(b []byte) []byte {
			return frame.Copy(api.Frame{To: 1, From: 2, Kind: 3, Data: b}).Data
		})
	}
}

func TestSpareRoomIsNewMemoryToo(t *testing.T) {
	b := roomy(append(bytes.Clone(head), some(5)...), 40)
	before := bytes.Clone(all(b))
	opened, ok := frame.Open(api.Frame{To: api.Reserved, Kind: 3, Data: b[:3]})
	if !ok {
		t.Fatalf("Open of a frame without a Bpdu's bytes")
	}
	spoil(opened)
	spoil(frame.Copy(api.Frame{Data: b[:0]}).Data)
	spoil(frame.Wrap(7, b[:0]).Data)
	if !bytes.Equal(all(b), before) {
		t.Errorf("the spare room of an answer is that of what was handed in")
	}
	for _, kind := range []uint16{0, 0x0800} {
		b := layout(1, 2, kind, some(20))
		before := bytes.Clone(all(b))
		f, e := frame.Get(b[:14])
		if e != api.OK {
			t.Fatalf("Get of the Kind %d: %d", kind, e)
		}
		spoil(f.Data)
		if !bytes.Equal(all(b), before) {
			t.Errorf("Get of the Kind %d: the spare room of the answer is that of what was handed in", kind)
		}
	}
}

// Of any bytes: what is read may be, and is put as it was read.
func FuzzGetAndPut(f *testing.F) {
	f.Add([]byte{})
	f.Add(layout(1, 2, 0, nil))
	f.Add(layout(1, 2, 3, some(5)))
	f.Add(layout(api.Reserved, 2, 5, append(bytes.Clone(head), 5, 6)))
	f.Add(layout(api.Broadcast, 2, 0x0800, some(9)))
	f.Add(layout(1, 2, 1501, some(9)))
	f.Fuzz(func(t *testing.T, b []byte) {
		if len(b) >= 14 {
			var room [16]byte
			copy(room[2:8], b)
			copy(room[10:16], b[6:])
			to, from := binary.BigEndian.Uint64(room[:8]), binary.BigEndian.Uint64(room[8:])
			checkGet(t, api.Addr(to), api.Addr(from), uint16(b[12])*256+uint16(b[13]), b[14:])
		}
		g, e := frame.Get(b)
		if e != api.OK {
			return
		}
		out, e := frame.Put(g)
		if e != api.OK || !bytes.HasPrefix(b, out) {
			t.Fatalf("%x is read, and put as %x, %d", b, out, e)
		}
		if x, ok := frame.Open(g); ok && !frame.Same(frame.Wrap(g.From, x), g) {
			t.Fatalf("%x is opened, and wrapped as another one", b)
		}
	})
}
