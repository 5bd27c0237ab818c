package relay_test

import (
	"bytes"
	"math"
	"slices"
	"testing"

	"treeline/api"
	"treeline/relay"
)

// 18.1: what a frame is has the numbers that the chapter says.
func TestNumbersOfClasses(t *testing.T) {
	got := []int{relay.Told, relay.Kept, relay.Data}
	if want := []int{told, kept, data}; !slices.Equal(got, want) {
		t.Errorf("Told, Kept, Data = %d, want %d", got, want)
	}
}

// 18.1: to api.Reserved, by how many bytes there are: three make it one that
// bridges tell each other, whatever stands behind them.
func TestClassByCountOfData(t *testing.T) {
	for _, n := range []int{0, 1, 2, 3, 4, 5, 7, 8, 38, 255, 256, 259, 1499, 1500, 1501, 1536, 65535, 65536, 65539, 100_000} {
		for _, fill := range []byte{0, 3, 0x42, 0xff} {
			whole := bpdu(bytes.Repeat([]byte{fill}, n)...)
			want := told
			if n < 3 {
				want = kept
			}
			checkClass(t, api.Frame{To: api.Reserved, From: 2, Kind: uint16(min(n, 1500)), Data: whole[:n]}, want)
		}
	}
	checkClass(t, api.Frame{To: api.Reserved}, kept)
}

// 18.1: to api.Reserved, by each value of each of the first bytes; those
// behind them count for nothing.
func TestClassByFirstBytes(t *testing.T) {
	for i := range 6 {
		for b := range 256 {
			f := api.Frame{To: api.Reserved, From: 2, Kind: 6, Data: bpdu(0x42, 0x42, 3)}
			want := told
			if i < 3 && byte(b) != f.Data[i] {
				want = kept
			}
			f.Data[i] = byte(b)
			checkClass(t, f, want)
		}
	}
	for _, head := range [][]byte{{0x42, 3, 0x42}, {3, 0x42, 0x42}, {0x42, 0x42, 0x42}, {0, 0x42, 0x42, 3}, {0x24, 0x24, 3}, {42, 42, 3}} {
		checkClass(t, api.Frame{To: api.Reserved, From: 2, Kind: uint16(len(head)), Data: head}, kept)
	}
}

// 18.1: to api.Reserved, by each Kind: a length makes it one that bridges tell
// each other, be it that of the data or not; a type, and what is neither, don't.
func TestClassByKind(t *testing.T) {
	for _, n := range []int{0, 1, 4, 35, 1496, 1497, 1498, 1533, 65535} {
		f := api.Frame{To: api.Reserved, From: 2, Data: bpdu(make([]byte, n)...)}
		for kind := range 65536 {
			edge := kind >= 1490 && kind <= 1550
			if n > 35 && kind%97 != 0 && !edge {
				continue
			}
			want := told
			if kind > 1500 {
				want = kept
			}
			f.Kind = uint16(kind)
			checkClass(t, f, want)
		}
	}
}

// 18.1: to each of the sixteen reserved addresses; only what is to the first
// one is what bridges tell each other.
func TestClassToReserved(t *testing.T) {
	for i := range api.Addr(16) {
		want := kept
		if i == 0 {
			want = told
		}
		f := tells()
		f.To = reserved + i
		checkClass(t, f, want)
		checkClass(t, to(reserved+i), kept)
		checkClass(t, api.Frame{To: reserved + i}, kept)
		f.Kind = 0x88cc
		checkClass(t, f, kept)
		f.Kind, f.Data[1] = 7, 0x43
		checkClass(t, f, kept)
	}
}

// 18.1: ahead of the first reserved address and behind the last one, to a
// group, to all, to one, to 0, and to numbers above 48 bits, whose lowest bits
// are those of a reserved address.
func TestClassToOthers(t *testing.T) {
	others := []api.Addr{
		reserved - 1, reserved - 16, lastReserved + 1, lastReserved + 16, lastReserved + 241, api.Broadcast, 0,
		reserved >> 1, reserved << 1, reserved >> 8, reserved << 8, reserved << 16,
		1<<48 | lastReserved, 0xffff<<48 | reserved, 2<<48 | reserved + 7,
	}
	for bit := range 64 {
		if a := reserved ^ api.Addr(1)<<bit; bit > 3 {
			others = append(others, a)
		}
	}
	for _, a := range slices.Concat(others, ones, groups) {
		f := tells()
		f.To = a
		checkClass(t, f, data)
		checkClass(t, to(a), data)
		checkClass(t, api.Frame{To: a, Kind: 1501}, data)
		checkClass(t, api.Frame{To: a, Kind: 3, Data: make([]byte, 2000)}, data)
	}
}

// 18.1: who sent a frame counts for nothing, were it nobody, all, or a bridge.
func TestClassFromAnybody(t *testing.T) {
	for _, a := range slices.Concat(froms, noFroms, []api.Addr{reserved, lastReserved, math.MaxUint64}) {
		for want, f := range []api.Frame{tells(), to(reserved), to(5)} {
			f.From = a
			checkClass(t, f, want)
		}
	}
}
