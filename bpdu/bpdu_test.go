package bpdu_test

import (
	"bytes"
	"encoding/binary"
	"math"
	"testing"

	"treeline/api"
	"treeline/bpdu"
)

// Where each part of a configuration's bytes stands, and how many there are.
const (
	atType   = 3
	atFlags  = 4
	atRoot   = 5
	atCost   = 13
	atBridge = 17
	atPort   = 25
	atAge    = 27
	atMaxAge = 29
	atHello  = 31
	atDelay  = 33
	whole    = 35
)

// tcn is a TCN's bytes.
var tcn = []byte{0, 0, 0, 0x80}

// plain is a configuration of which no two bytes that count are alike, so
// that one which goes astray is seen.
var plain = api.Bpdu{
	Root: 0x0102030405060708, Cost: 0x11121314, Bridge: 0x2122232425262728,
	Port: 0x3132, Age: 0x4142, MaxAge: 0x5152, Hello: 0x6162, Delay: 0x7172,
}

// greatest is a configuration, each number the greatest that is read.
var greatest = api.Bpdu{
	Change: true, Ack: true,
	Root: math.MaxUint64, Cost: math.MaxInt32, Bridge: math.MaxUint64,
	Port: math.MaxUint16, Age: math.MaxUint16 - 1, MaxAge: math.MaxUint16, Hello: math.MaxUint16, Delay: math.MaxUint16,
}

// layout works the bytes of a configuration out anew, of any byte of flags.
func layout(x api.Bpdu, flags byte) []byte {
	b := make([]byte, whole)
	b[atFlags] = flags
	binary.BigEndian.PutUint64(b[atRoot:], uint64(x.Root))
	binary.BigEndian.PutUint32(b[atCost:], x.Cost)
	binary.BigEndian.PutUint64(b[atBridge:], uint64(x.Bridge))
	binary.BigEndian.PutUint16(b[atPort:], uint16(x.Port))
	binary.BigEndian.PutUint16(b[atAge:], x.Age)
	binary.BigEndian.PutUint16(b[atMaxAge:], x.MaxAge)
	binary.BigEndian.PutUint16(b[atHello:], x.Hello)
	binary.BigEndian.PutUint16(b[atDelay:], x.Delay)
	return b
}

// flags answers the flags' byte as the chapter tells it.
func flags(change, ack bool) byte {
	switch {
	case change && ack:
		return 0x81
	case change:
		return 0x01
	case ack:
		return 0x80
	}
	return 0
}

// told answers the bytes of a Bpdu, worked out anew.
func told(x api.Bpdu) []byte {
	if x.Tcn {
		return bytes.Clone(tcn)
	}
	return layout(x, flags(x.Change, x.Ack))
}

// wrong tells the error of bytes anew, from the chapter's words.
func wrong(b []byte) api.Errno {
	if len(b) <= 3 {
		return api.ErrShort
	}
	if string(b[:4]) == "\x00\x00\x00\x80" {
		return api.OK
	}
	if string(b[:4]) != "\x00\x00\x00\x00" {
		return api.ErrForm
	}
	if len(b) <= 34 {
		return api.ErrShort
	}
	if b[atCost]&0x80 != 0 {
		return api.ErrLong
	}
	if bytes.Compare(b[atAge:atMaxAge], b[atMaxAge:atHello]) >= 0 {
		return api.ErrAge
	}
	return api.OK
}

// changed answers bytes of which those from at on are others.
func changed(b []byte, at int, others ...byte) []byte {
	out := bytes.Clone(b)
	copy(out[at:], others)
	return out
}

// some answers so many bytes, of which neighbours differ; they begin no Bpdu.
func some(n int) []byte {
	b := make([]byte, n)
	for i := range b {
		b[i] = byte(37*i + i/256 + 11)
	}
	return b
}

// all answers what a list has, its spare room included.
func all(b []byte) []byte {
	return b[:cap(b)]
}

// spoil turns over every bit of a list, its spare room included.
func spoil(b []byte) {
	for i := range all(b) {
		all(b)[i] ^= 0xFF
	}
}

// roomy answers a list like b with spare room of bytes 0xA5 behind it.
func roomy(b []byte, spare int) []byte {
	long := append(bytes.Clone(b), bytes.Repeat([]byte{0xA5}, spare)...)
	return long[:len(b)]
}

// bridges, costs and shorts are such that a bit or a byte which goes
// astray is seen; the edges are among them.
func bridges() []api.BridgeId {
	list := []api.BridgeId{0, 1, 0x8000000000000001, 0x0102030405060708, 0xFEDCBA9876543210, math.MaxUint64 - 1, math.MaxUint64}
	for i := range 64 {
		list = append(list, 1<<i)
	}
	return list
}

func costs() []uint32 {
	list := []uint32{0, 1, 19, 0x01020304, math.MaxInt32 - 1, math.MaxInt32, math.MaxInt32 + 1, math.MaxInt32 + 2, 0xFEDCBA98, math.MaxUint32 - 1, math.MaxUint32}
	for i := range 32 {
		list = append(list, 1<<i)
	}
	return list
}

var shorts = []uint16{0, 1, 2, 255, 256, 257, 0x0102, 5120, 32767, 32768, 32769, 0xFEDC, 65279, 65280, 65534, 65535}

// each answers Bpdus of all sorts: each field at all its values, the others
// those of plain, and at 0, and at their greatest; some too far, some too old.
func each() []api.Bpdu {
	var list []api.Bpdu
	for _, x := range []api.Bpdu{plain, greatest, {}, {MaxAge: 1}} {
		list = append(list, x)
		for _, two := range [][2]bool{{false, false}, {false, true}, {true, false}, {true, true}} {
			x := x
			x.Change, x.Ack = two[0], two[1]
			list = append(list, x)
			x.Tcn = true
			list = append(list, x)
		}
		for _, id := range bridges() {
			y, z := x, x
			y.Root, z.Bridge = id, id
			list = append(list, y, z)
		}
		for _, cost := range costs() {
			y := x
			y.Cost = cost
			list = append(list, y)
		}
		for _, n := range shorts {
			p, a, m, h, d := x, x, x, x, x
			p.Port, a.Age, m.MaxAge, h.Hello, d.Delay = api.PortId(n), n, n, n, n
			list = append(list, p, a, m, h, d)
		}
	}
	return list
}

// checkGet holds Get of bytes against the chapter's words; x is what they
// tell, if nothing is wrong with them. For of somebody else answers the same.
func checkGet(t *testing.T, b []byte, x api.Bpdu) {
	t.Helper()
	want := wrong(b)
	if want != api.OK {
		x = api.Bpdu{}
	}
	if got, e := bpdu.Get(b); got != x || e != want {
		t.Fatalf("Get(%x) = %+v, %d, want %+v, %d", b, got, e, x, want)
	}
	if got, e := bpdu.For(b, x.Bridge+1, x.Port+1); got != x || e != want {
		t.Fatalf("For(%x, %x, %x) = %+v, %d, want %+v, %d", b, x.Bridge+1, x.Port+1, got, e, x, want)
	}
}

// 5.1: Put.

func TestPut(t *testing.T) {
	for _, c := range []struct {
		name string
		x    api.Bpdu
		want []byte
	}{
		{"the example", api.Bpdu{Tcn: true}, []byte{0, 0, 0, 0x80}},
		{"the zero one", api.Bpdu{}, make([]byte, 35)},
		{"each part in its place", plain, []byte{0, 0, 0, 0, 0,
			1, 2, 3, 4, 5, 6, 7, 8, 0x11, 0x12, 0x13, 0x14, 0x21, 0x22, 0x23, 0x24, 0x25, 0x26, 0x27, 0x28,
			0x31, 0x32, 0x41, 0x42, 0x51, 0x52, 0x61, 0x62, 0x71, 0x72}},
		{"the greatest that is read", greatest, []byte{0, 0, 0, 0, 0x81,
			255, 255, 255, 255, 255, 255, 255, 255, 127, 255, 255, 255, 255, 255, 255, 255, 255, 255, 255, 255,
			255, 255, 255, 254, 255, 255, 255, 255, 255, 255}},
		{"a root's", api.Bpdu{Ack: true, Root: 0x8000000000000101, Bridge: 0x8000000000000101, Port: 0x8001, MaxAge: 20 * 256, Hello: 2 * 256, Delay: 15 * 256}, []byte{0, 0, 0, 0, 0x80,
			128, 0, 0, 0, 0, 0, 1, 1, 0, 0, 0, 0, 128, 0, 0, 0, 0, 0, 1, 1,
			128, 1, 0, 0, 20, 0, 2, 0, 15, 0}},
	} {
		if got := bpdu.Put(c.x); !bytes.Equal(got, c.want) {
			t.Errorf("%s: Put = %x, want %x", c.name, got, c.want)
		}
	}
}

func TestPutOfATcnOfOtherFields(t *testing.T) {
	for _, x := range each() {
		x.Tcn = true
		if got := bpdu.Put(x); !bytes.Equal(got, []byte{0, 0, 0, 0x80}) {
			t.Fatalf("Put(%+v) = %x", x, got)
		}
	}
}

func TestPutOfEachFlag(t *testing.T) {
	for _, c := range []struct {
		change, ack bool
		want        byte
	}{{false, false, 0}, {true, false, 0x01}, {false, true, 0x80}, {true, true, 0x81}} {
		for _, x := range []api.Bpdu{{}, plain, greatest} {
			x.Change, x.Ack = c.change, c.ack
			if got, want := bpdu.Put(x), layout(x, c.want); !bytes.Equal(got, want) {
				t.Errorf("Put(%+v) = %x, want %x", x, got, want)
			}
		}
	}
}

// What is too far or too old is put all the same: that is Get's to refuse.
func TestPutOfEachField(t *testing.T) {
	for _, x := range each() {
		if got, want := bpdu.Put(x), told(x); !bytes.Equal(got, want) {
			t.Fatalf("Put(%+v) = %x, want %x", x, got, want)
		}
	}
}

// 5.2: Get.

func TestGet(t *testing.T) {
	for _, c := range []struct {
		name string
		b    []byte
		want api.Bpdu
	}{
		{"a TCN", []byte{0, 0, 0, 0x80}, api.Bpdu{Tcn: true}},
		{"each part in its place", []byte{0, 0, 0, 0, 0,
			1, 2, 3, 4, 5, 6, 7, 8, 0x11, 0x12, 0x13, 0x14, 0x21, 0x22, 0x23, 0x24, 0x25, 0x26, 0x27, 0x28,
			0x31, 0x32, 0x41, 0x42, 0x51, 0x52, 0x61, 0x62, 0x71, 0x72}, plain},
		{"the greatest", []byte{0, 0, 0, 0, 0x81,
			255, 255, 255, 255, 255, 255, 255, 255, 127, 255, 255, 255, 255, 255, 255, 255, 255, 255, 255, 255,
			255, 255, 255, 254, 255, 255, 255, 255, 255, 255}, greatest},
		{"the least", append(make([]byte, atMaxAge+1), 1, 0, 0, 0, 0), api.Bpdu{MaxAge: 1}},
	} {
		if got, e := bpdu.Get(c.b); got != c.want || e != api.OK {
			t.Errorf("%s: Get = %+v, %d, want %+v", c.name, got, e, c.want)
		}
	}
}

func TestGetOfWrongBytes(t *testing.T) {
	good := told(plain)
	for _, c := range []struct {
		name string
		b    []byte
		want api.Errno
	}{
		{"no bytes, not even a list", nil, api.ErrShort},
		{"no bytes", []byte{}, api.ErrShort},
		{"three bytes", []byte{0, 0, 0}, api.ErrShort},
		{"three bytes of no Bpdu", []byte{1, 2, 3}, api.ErrShort},
		{"just the beginning of a configuration", []byte{0, 0, 0, 0}, api.ErrShort},
		{"34 bytes", good[:34], api.ErrShort},
		{"another first byte", changed(good, 0, 1), api.ErrForm},
		{"another second byte", changed(good, 1, 1), api.ErrForm},
		{"another third byte", changed(good, 2, 1), api.ErrForm},
		{"another third byte, of just four", []byte{0, 0, 2, 0}, api.ErrForm},
		{"another first byte of a TCN", []byte{1, 0, 0, 0x80}, api.ErrForm},
		{"another second byte of a TCN", []byte{0, 1, 0, 0x80}, api.ErrForm},
		{"another third byte of a TCN", []byte{0, 0, 1, 0x80}, api.ErrForm},
		{"another type", changed(good, atType, 2), api.ErrForm},
		{"80 of base ten as type", changed(good, atType, 80), api.ErrForm},
		{"the Cost 2^31", changed(good, atCost, 0x80, 0, 0, 0), api.ErrLong},
		{"the Cost 2^32 - 1", changed(good, atCost, 255, 255, 255, 255), api.ErrLong},
		{"an Age of MaxAge", changed(good, atAge, 0x51, 0x52), api.ErrAge},
		{"an Age above MaxAge", changed(good, atAge, 0x51, 0x53), api.ErrAge},
		{"no Age, and no MaxAge", changed(good, atAge, 0, 0, 0, 0), api.ErrAge},
		{"the greatest Age and MaxAge", changed(good, atAge, 255, 255, 255, 255), api.ErrAge},
	} {
		if got, e := bpdu.Get(c.b); got != (api.Bpdu{}) || e != c.want {
			t.Errorf("%s: Get = %+v, %d, want %d", c.name, got, e, c.want)
		}
		if got, e := bpdu.For(c.b, 0, 0); got != (api.Bpdu{}) || e != c.want {
			t.Errorf("%s: For = %+v, %d, want %d", c.name, got, e, c.want)
		}
	}
}

func TestGetTellsTheFirstError(t *testing.T) {
	good := told(plain)
	far := changed(good, atCost, 0x80)
	for _, c := range []struct {
		name string
		b    []byte
		want api.Errno
	}{
		{"too short, and another beginning", []byte{9, 9, 9}, api.ErrShort},
		{"too short, and another first byte", []byte{1}, api.ErrShort},
		{"another beginning, and too short for a configuration", []byte{0, 0, 1, 0}, api.ErrForm},
		{"another type, and too short for a configuration", []byte{0, 0, 0, 1}, api.ErrForm},
		{"another beginning, and too far", changed(far, 0, 1), api.ErrForm},
		{"another type, and too far and too old", changed(changed(far, atAge, 255), atType, 0x81), api.ErrForm},
		{"another type, and too old", changed(changed(good, atAge, 255), atType, 1), api.ErrForm},
		{"too short, and too far", far[:34], api.ErrShort},
		{"too short, and too old", changed(good, atAge, 255)[:34], api.ErrShort},
		{"too far, and too old", changed(far, atAge, 255), api.ErrLong},
		{"too far, and of the Age of MaxAge", changed(far, atAge, 0x51, 0x52), api.ErrLong},
	} {
		if got, e := bpdu.Get(c.b); got != (api.Bpdu{}) || e != c.want {
			t.Errorf("%s: Get = %+v, %d, want %d", c.name, got, e, c.want)
		}
	}
}

func TestGetOfEachCount(t *testing.T) {
	for _, x := range []api.Bpdu{plain, greatest, {MaxAge: 1}} {
		long := append(told(x), some(200)...)
		for n := range len(long) + 1 {
			checkGet(t, bytes.Clone(long[:n]), x)
		}
	}
	long := append(bytes.Clone(tcn), some(200)...)
	for n := range len(long) + 1 {
		checkGet(t, bytes.Clone(long[:n]), api.Bpdu{Tcn: true})
	}
	for n := range 100 {
		checkGet(t, some(n), api.Bpdu{})
	}
	for _, n := range []int{1497, 65536, 1 << 20} {
		checkGet(t, append(told(plain), some(n)...), plain)
		checkGet(t, append(bytes.Clone(tcn), some(n)...), api.Bpdu{Tcn: true})
	}
}

func TestGetOfEachBeginning(t *testing.T) {
	for at := range 3 {
		for c := range 256 {
			checkGet(t, changed(told(plain), at, byte(c)), plain)
			checkGet(t, changed(tcn, at, byte(c)), api.Bpdu{Tcn: true})
		}
	}
	for _, c := range [][]byte{{1, 1, 1}, {255, 255, 255}, {0, 255, 1}, {1, 255, 255}} {
		checkGet(t, changed(told(plain), 0, c...), plain)
		checkGet(t, changed(tcn, 0, c...), api.Bpdu{Tcn: true})
	}
}

func TestGetOfEachType(t *testing.T) {
	for c := range 256 {
		x := plain
		if c == 0x80 {
			x = api.Bpdu{Tcn: true}
		}
		checkGet(t, changed(told(plain), atType, byte(c)), x)
		checkGet(t, []byte{0, 0, 0, byte(c)}, x)
	}
}

// What stands behind a TCN's type may be anything, also what would be a
// configuration that is refused, or no whole one.
func TestGetOfATcnWithBytesBehindIt(t *testing.T) {
	for _, x := range each() {
		b := changed(layout(x, 0xFF), atType, 0x80)
		for _, n := range []int{4, 5, 17, 34, 35} {
			if got, e := bpdu.Get(b[:n]); got != (api.Bpdu{Tcn: true}) || e != api.OK {
				t.Fatalf("Get(%x) = %+v, %d", b[:n], got, e)
			}
		}
	}
}

func TestGetOfEachFlag(t *testing.T) {
	for c := range 256 {
		for _, x := range []api.Bpdu{plain, greatest, {MaxAge: 1}} {
			x.Change, x.Ack = c%2 == 1, c >= 128
			checkGet(t, layout(x, byte(c)), x)
		}
	}
}

func TestGetOfEachField(t *testing.T) {
	for _, x := range each() {
		if !x.Tcn {
			checkGet(t, layout(x, flags(x.Change, x.Ack)), x)
		}
	}
}

func TestGetOfEachCost(t *testing.T) {
	for _, cost := range costs() {
		for _, x := range []api.Bpdu{plain, greatest, {MaxAge: 1}} {
			x.Cost = cost
			want := api.OK
			if cost > math.MaxInt32 {
				want = api.ErrLong
			}
			if _, e := bpdu.Get(told(x)); e != want {
				t.Errorf("Get of the Cost %d: %d, want %d", cost, e, want)
			}
			checkGet(t, told(x), x)
		}
	}
}

func TestGetOfEachAge(t *testing.T) {
	for _, maxAge := range shorts {
		for _, age := range append([]uint16{maxAge - 1, maxAge, maxAge + 1}, shorts...) {
			x := plain
			x.Age, x.MaxAge = age, maxAge
			want := api.ErrAge
			if age < maxAge {
				want = api.OK
			}
			if _, e := bpdu.Get(told(x)); e != want {
				t.Errorf("Get of the Age %d, of the MaxAge %d: %d, want %d", age, maxAge, e, want)
			}
			checkGet(t, told(x), x)
		}
	}
}

func TestGetDoesNotReadSpareRoom(t *testing.T) {
	long := told(plain)
	for n := range len(long) {
		if got, e := bpdu.Get(long[:n]); got != (api.Bpdu{}) || e != api.ErrShort {
			t.Errorf("Get of the first %d bytes = %+v, %d", n, got, e)
		}
		if got, e := bpdu.For(long[:n], 1, 2); got != (api.Bpdu{}) || e != api.ErrShort {
			t.Errorf("For of the first %d bytes = %+v, %d", n, got, e)
		}
	}
	for n := range tcn {
		if got, e := bpdu.Get(tcn[:n]); got != (api.Bpdu{}) || e != api.ErrShort {
			t.Errorf("Get of the first %d bytes of a TCN = %+v, %d", n, got, e)
		}
	}
}

// 5.2: For.

func TestFor(t *testing.T) {
	for _, c := range []struct {
		name   string
		bridge api.BridgeId
		port   api.PortId
		want   api.Errno
	}{
		{"the very Bridge and Port", plain.Bridge, plain.Port, api.ErrOwn},
		{"another Bridge", plain.Bridge + 1, plain.Port, api.OK},
		{"another Bridge, in its highest bit", plain.Bridge ^ 1<<63, plain.Port, api.OK},
		{"another Port", plain.Bridge, plain.Port + 1, api.OK},
		{"another Port, in its priority", plain.Bridge, plain.Port ^ 0x8000, api.OK},
		{"both are others", plain.Bridge - 1, plain.Port - 1, api.OK},
		{"its Root", plain.Root, plain.Port, api.OK},
		{"nobody", 0, 0, api.OK},
		{"the greatest", math.MaxUint64, math.MaxUint16, api.OK},
	} {
		want := plain
		if c.want != api.OK {
			want = api.Bpdu{}
		}
		if got, e := bpdu.For(told(plain), c.bridge, c.port); got != want || e != c.want {
			t.Errorf("%s: For = %+v, %d, want %+v, %d", c.name, got, e, want, c.want)
		}
	}
}

func TestForOfEachBridgeAndPort(t *testing.T) {
	for _, x := range []api.Bpdu{plain, greatest, {MaxAge: 1}} {
		for _, bridge := range append(bridges(), x.Bridge, x.Root) {
			for _, port := range append(shorts, uint16(x.Port)) {
				want, e := x, api.OK
				if bridge == x.Bridge && api.PortId(port) == x.Port {
					want, e = api.Bpdu{}, api.ErrOwn
				}
				if got, err := bpdu.For(told(x), bridge, api.PortId(port)); got != want || err != e {
					t.Fatalf("For(%x, %x, %x) = %+v, %d, want %+v, %d", told(x), bridge, port, got, err, want, e)
				}
			}
		}
	}
}

func TestForWithBytesBehind(t *testing.T) {
	b := append(told(plain), some(40)...)
	if got, e := bpdu.For(b, plain.Bridge, plain.Port); got != (api.Bpdu{}) || e != api.ErrOwn {
		t.Errorf("For of one's own = %+v, %d", got, e)
	}
	if got, e := bpdu.For(b, plain.Bridge, plain.Port+1); got != plain || e != api.OK {
		t.Errorf("For of another's = %+v, %d", got, e)
	}
}

// The Bridge and Port that a TCN doesn't tell are 0: they aren't this port's,
// not even if it is of the number 0; nor are those that stand behind it.
func TestForOfATcn(t *testing.T) {
	behind := changed(told(plain), atType, 0x80)
	for _, b := range [][]byte{tcn, behind, append(bytes.Clone(tcn), make([]byte, 31)...)} {
		for _, bridge := range append(bridges(), plain.Bridge) {
			for _, port := range append(shorts, uint16(plain.Port)) {
				if got, e := bpdu.For(b, bridge, api.PortId(port)); got != (api.Bpdu{Tcn: true}) || e != api.OK {
					t.Fatalf("For(%x, %x, %x) = %+v, %d", b, bridge, port, got, e)
				}
			}
		}
	}
}

// Get's error comes ahead of ErrOwn.
func TestForOfOnesOwnThatIsWrong(t *testing.T) {
	good := told(plain)
	for _, c := range []struct {
		name string
		b    []byte
		want api.Errno
	}{
		{"no bytes", nil, api.ErrShort},
		{"too short", good[:34], api.ErrShort},
		{"too short, behind the Port", good[:27], api.ErrShort},
		{"another beginning", changed(good, 2, 1), api.ErrForm},
		{"another type", changed(good, atType, 1), api.ErrForm},
		{"too far", changed(good, atCost, 0x80), api.ErrLong},
		{"too old", changed(good, atAge, 0x51, 0x52), api.ErrAge},
	} {
		if got, e := bpdu.For(c.b, plain.Bridge, plain.Port); got != (api.Bpdu{}) || e != c.want {
			t.Errorf("%s: For = %+v, %d, want %d", c.name, got, e, c.want)
		}
	}
}

// 5.3: what is put is read as it was.

func TestWhatIsPutIsRead(t *testing.T) {
	read := 0
	for _, x := range each() {
		want := x
		switch {
		case x.Tcn:
			want = api.Bpdu{Tcn: true}
		case x.Cost > math.MaxInt32 || x.Age >= x.MaxAge:
			continue
		}
		read++
		if got, e := bpdu.Get(bpdu.Put(x)); got != want || e != api.OK {
			t.Fatalf("Get(Put(%+v)) = %+v, %d", x, got, e)
		}
		if got, e := bpdu.For(bpdu.Put(x), x.Bridge+1, x.Port); got != want || e != api.OK {
			t.Fatalf("For(Put(%+v), ..) = %+v, %d", x, got, e)
		}
	}
	if read < 500 {
		t.Errorf("only %d were read", read)
	}
}

func TestWhatIsPutAndIsTooFarOrTooOldIsRefused(t *testing.T) {
	for _, x := range each() {
		want := api.OK
		switch {
		case x.Tcn:
			continue
		case x.Cost > math.MaxInt32:
			want = api.ErrLong
		case x.Age >= x.MaxAge:
			want = api.ErrAge
		}
		if _, e := bpdu.Get(bpdu.Put(x)); e != want {
			t.Fatalf("Get(Put(%+v)): %d, want %d", x, e, want)
		}
	}
}

// What is read is put as the bytes that count, other flags left out.
func TestWhatIsReadIsPut(t *testing.T) {
	for c := range 256 {
		b := append(layout(plain, byte(c)), some(c)...)
		x, e := bpdu.Get(b)
		if want := changed(b[:whole], atFlags, byte(c)&0x81); e != api.OK || !bytes.Equal(bpdu.Put(x), want) {
			t.Errorf("Put(Get(%x)) = %x, %d", b, bpdu.Put(x), e)
		}
	}
}

// Rule 4: what is handed in isn't changed, what is handed out is new memory.

func TestReadingLeavesWhatIsHandedInAsItWas(t *testing.T) {
	good := told(plain)
	for _, b := range [][]byte{
		nil, {}, {0}, {0, 0, 0}, tcn, append(bytes.Clone(tcn), some(9)...), {0, 0, 0, 7}, {1, 0, 0, 0},
		good[:34], good, append(bytes.Clone(good), some(9)...), changed(good, atCost, 0x80), changed(good, atAge, 255),
	} {
		in := roomy(b, 60)
		before := bytes.Clone(all(in))
		x, e := bpdu.Get(in)
		y, f := bpdu.For(in, plain.Bridge, plain.Port)
		if !bytes.Equal(all(in), before) {
			t.Errorf("of %x what was handed in is changed: %x", b, all(in))
		}
		spoil(in)
		in = roomy(b, 60)
		if again, g := bpdu.Get(in); again != x || g != e {
			t.Errorf("Get(%x) = %+v, %d, and then %+v, %d", b, x, e, again, g)
		}
		if again, g := bpdu.For(in, plain.Bridge, plain.Port); again != y || g != f {
			t.Errorf("For(%x) = %+v, %d, and then %+v, %d", b, y, f, again, g)
		}
	}
}

func TestPutAnswersNewMemory(t *testing.T) {
	for _, x := range []api.Bpdu{{}, {Tcn: true}, plain, greatest} {
		first, second := bpdu.Put(x), bpdu.Put(x)
		before := bytes.Clone(all(second))
		spoil(first)
		if !bytes.Equal(all(second), before) {
			t.Errorf("what Put(%+v) answers twice shares memory", x)
		}
		if third := bpdu.Put(x); !bytes.Equal(third, told(x)) {
			t.Errorf("Put(%+v) = %x, once an earlier answer was changed", x, third)
		}
	}
}
