package relay_test

import (
	"bytes"
	"math"
	"slices"
	"testing"

	"treeline/api"
	"treeline/relay"
)

// The states by their numbers, written out apart from the package's names.
const (
	disabled = iota
	blocking
	listening
	learning
	forwarding
)

// What frames are by their numbers, likewise.
const (
	told = 0
	kept = 1
	data = 2
)

// reserved is the first reserved address, and lastReserved the last one.
const (
	reserved     = 0x0180_c200_0000
	lastReserved = 0x0180_c200_000f
)

// allStates are the five states; noStates are numbers that none of them has,
// some of which have the lowest bits of one that forwards, or learns.
var (
	allStates = []int{disabled, blocking, listening, learning, forwarding}
	noStates  = []int{-1, -3, -4, 5, 6, 7, 12, 256, 259, 260, 1<<32 + 3, 1<<32 + 4, math.MinInt, math.MinInt + 4, math.MaxInt}
)

// froms are addresses that may be one's; noFroms are numbers of which none may.
var (
	froms   = []api.Addr{1, 2, 258, 0x0203_0405_0607, 1 << 39, 1 << 41, 0x00ff_ffff_ffff, 0xfeff_ffff_ffff}
	noFroms = []api.Addr{
		0, 1 << 40, 1<<40 | 2, 0x0180_c200_0000, 0x0180_c200_0010, 0xffff_ffff_ffff,
		1 << 48, 1<<48 | 2, 0xffff << 48, 0xffff<<48 | 5, 1<<63 | 1, math.MaxUint64,
	}
)

// Addresses to which frames are: one's, several ones', and reserved ones.
// Groups and ones may be numbers above 48 bits, whose lowest bits count.
var (
	ones = []api.Addr{
		0, 1, 5, 0x0203_0405_0607, 1 << 39, 1 << 41, 0x0080_c200_0000, 0xfeff_ffff_ffff,
		1 << 48, 1<<48 | 5, 0xffff << 48, 0xfffe_feff_ffff_ffff, math.MaxUint64 &^ (1 << 40),
	}
	groups = []api.Addr{
		1 << 40, 1<<40 | 5, 0x0180_c1ff_ffff, 0x0180_c200_0010, 0x0180_c200_00ff, 0x0180_c201_0000, 0x0980_c200_0000, 0x0181_c200_0000, 0xffff_ffff_ffff,
		1<<48 | 1<<40, 1<<48 | reserved, 1<<63 | lastReserved, math.MaxUint64,
	}
)

// bpdu is data that begins as that which bridges tell each other.
func bpdu(behind ...byte) []byte {
	return append([]byte{0x42, 0x42, 3}, behind...)
}

// to answers a frame of a type to an address, from one that may be one's.
func to(a api.Addr) api.Frame {
	return api.Frame{To: a, From: 2, Kind: 0x0800, Data: []byte("hello")}
}

// tells answers a frame that bridges tell each other.
func tells() api.Frame {
	return api.Frame{To: reserved, From: 2, Kind: 7, Data: bpdu(0, 0, 0, 0x80)}
}

// forwards answers so many states of ports that all forward.
func forwards(ports int) []int {
	return slices.Repeat([]int{forwarding}, ports)
}

// noPlaces are numbers at which there is none of so many ports.
func noPlaces(ports int) []int {
	return []int{
		math.MinInt, math.MinInt + 1, -1 << 32, -256, -ports - 1, -ports, -2, -1,
		ports, ports + 1, ports + 255, ports + 256, 1<<32 + ports, math.MaxInt - 1, math.MaxInt,
	}
}

// guard hands out a frame with spare room behind its data, and holds all of it
// against what it was.
func guard(t *testing.T, f api.Frame) (api.Frame, func(call string)) {
	t.Helper()
	room := append(bytes.Clone(f.Data), bytes.Repeat([]byte{0xa5}, 9)...)
	was := bytes.Clone(room)
	f.Data = room[:len(f.Data)]
	return f, func(call string) {
		t.Helper()
		if !bytes.Equal(room, was) {
			t.Fatalf("%s: the frame's data are changed: % x, were % x", call, room, was)
		}
	}
}

// checkClass holds Class against what is wanted, twice.
func checkClass(t *testing.T, f api.Frame, want int) {
	t.Helper()
	g, same := guard(t, f)
	for range 2 {
		if got := relay.Class(g); got != want {
			t.Errorf("Class(%+v) = %d, want %d", f, got, want)
		}
		same("Class")
	}
}

// checkLearns holds Learns against what is wanted, twice.
func checkLearns(t *testing.T, f api.Frame, state int, want bool) {
	t.Helper()
	g, same := guard(t, f)
	for range 2 {
		if got := relay.Learns(g, state); got != want {
			t.Errorf("Learns(%+v, %d) = %t, want %t", f, state, got, want)
		}
		same("Learns")
	}
}

// checkPorts holds Ports against what is wanted: twice, the first answer
// overwritten ahead of the second call, spare room of all lists included.
func checkPorts(t *testing.T, f api.Frame, in int, states []int, where int, known bool, want ...int) {
	t.Helper()
	g, same := guard(t, f)
	room := append(slices.Clone(states), forwards(9)...)
	was := slices.Clone(room)
	for range 2 {
		got := relay.Ports(g, in, room[:len(states)], where, known)
		if !slices.Equal(got, want) {
			t.Errorf("Ports(%+v, %d, %d, %d, %t) = %d, want %d", f, in, states, where, known, got, want)
		}
		for i := range got[:cap(got)] {
			got[:cap(got)][i] = -77
		}
		same("Ports")
		if !slices.Equal(room, was) {
			t.Fatalf("Ports(%+v, %d, %d, %d, %t): the states are changed: %d", f, in, states, where, known, room)
		}
	}
}
