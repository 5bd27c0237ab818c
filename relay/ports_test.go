package relay_test

import (
	"math"
	"slices"
	"testing"

	"treeline/api"
)

// The chapter's example: to all, by the port 0 of three that forward.
func TestExample(t *testing.T) {
	checkPorts(t, api.Frame{To: api.Broadcast, From: 2, Kind: 0x0800}, 0, forwards(3), 0, false, 1, 2)
}

// mixed are the states of eight ports, three of which forward, and the last.
func mixed() []int {
	return []int{blocking, forwarding, learning, forwarding, listening, forwarding, disabled, forwarding}
}

// 18.2: what isn't known, or is to several ones, goes by all other ports that forward.
func TestToAll(t *testing.T) {
	for _, f := range []api.Frame{to(5), to(0), to(api.Broadcast), to(1 << 40), {To: 5, Kind: 1501}, {To: api.Broadcast, From: api.Broadcast}} {
		checkPorts(t, f, 1, mixed(), 0, false, 3, 5, 7)
		checkPorts(t, f, 3, mixed(), 0, false, 1, 5, 7)
		checkPorts(t, f, 5, mixed(), 0, false, 1, 3, 7)
		checkPorts(t, f, 7, mixed(), 0, false, 1, 3, 5)
	}
}

// 18.2: no port in: none, whoever it is to, where and whether that is known.
func TestNoPortIn(t *testing.T) {
	for _, states := range [][]int{nil, {}, forwards(1), forwards(2), forwards(4), mixed(), forwards(300)} {
		for _, in := range noPlaces(len(states)) {
			for _, f := range []api.Frame{to(5), to(api.Broadcast), to(reserved), tells()} {
				for _, where := range []int{-1, 0, 1, in, len(states)} {
					checkPorts(t, f, in, states, where, false)
					checkPorts(t, f, in, states, where, true)
				}
			}
		}
	}
}

// 18.2: no states at all: none, whatever the port in is.
func TestNoStates(t *testing.T) {
	for _, states := range [][]int{nil, {}, make([]int, 0, 9)} {
		for _, in := range []int{0, 1, -1, math.MinInt, math.MaxInt} {
			checkPorts(t, to(5), in, states, 0, false)
			checkPorts(t, to(5), in, states, 0, true)
			checkPorts(t, to(api.Broadcast), in, states, in, true)
		}
	}
}

// 18.2: only what a port heard that forwards goes on; one that learns doesn't
// suffice, nor does a number that is no state.
func TestPortInOfEachState(t *testing.T) {
	for _, s := range slices.Concat(allStates, noStates) {
		var all, last []int
		if s == forwarding {
			all, last = []int{0, 2, 3}, []int{3}
		}
		states := []int{forwarding, s, forwarding, forwarding}
		checkPorts(t, to(5), 1, states, 0, false, all...)
		checkPorts(t, to(api.Broadcast), 1, states, 3, true, all...)
		checkPorts(t, to(5), 1, states, 3, true, last...)
		checkPorts(t, to(5), 1, states, 1, true)
	}
}

// 18.2: only by ports that forward a frame goes on, at each place.
func TestOtherPortOfEachState(t *testing.T) {
	for _, s := range slices.Concat(allStates, noStates) {
		for at := range 5 {
			states := forwards(5)
			states[at] = s
			for in := range 5 {
				if in == at {
					continue
				}
				all := []int{0, 1, 2, 3, 4}
				var known []int
				if s == forwarding {
					known = []int{at}
				}
				all = slices.DeleteFunc(all, func(i int) bool { return i == in || i == at && s != forwarding })
				checkPorts(t, to(5), in, states, 0, false, all...)
				checkPorts(t, to(api.Broadcast), in, states, at, true, all...)
				checkPorts(t, to(5), in, states, at, true, known...)
			}
		}
	}
}

// 18.2: of no class but data anything goes on.
func TestPortsByClass(t *testing.T) {
	lldp := tells()
	lldp.Kind = 0x88cc
	for _, f := range []api.Frame{tells(), lldp, to(reserved), to(reserved + 1), to(lastReserved), {To: reserved}} {
		for in := range 3 {
			for where := range 3 {
				checkPorts(t, f, in, forwards(3), where, false)
				checkPorts(t, f, in, forwards(3), where, true)
			}
		}
	}
	for _, a := range slices.Concat(ones, groups) {
		f := tells()
		f.To = a
		checkPorts(t, f, 2, forwards(4), 0, false, 0, 1, 3)
		checkPorts(t, to(a), 2, forwards(4), 0, false, 0, 1, 3)
	}
}

// 18.2: what is known goes by the port behind which its receiver was heard, if
// that isn't the port in, and forwards.
func TestKnown(t *testing.T) {
	for _, a := range ones {
		for in, state := range mixed() {
			for where := range mixed() {
				var want []int
				if state == forwarding && mixed()[where] == forwarding && in != where {
					want = []int{where}
				}
				checkPorts(t, to(a), in, mixed(), where, true, want...)
			}
		}
	}
	checkPorts(t, to(5), 1, mixed(), 3, true, 3)
	checkPorts(t, to(5), 1, mixed(), 7, true, 7)
	checkPorts(t, to(5), 7, mixed(), 1, true, 1)
	checkPorts(t, to(5), 1, mixed(), 1, true)
	checkPorts(t, to(5), 1, mixed(), 2, true)
	checkPorts(t, to(5), 1, mixed(), 6, true)
}

// 18.2: what is known behind no port goes by none.
func TestKnownBehindNoPort(t *testing.T) {
	for _, ports := range []int{1, 2, 4, 300} {
		for _, where := range noPlaces(ports) {
			for _, in := range []int{0, ports - 1} {
				checkPorts(t, to(5), in, forwards(ports), where, true)
			}
		}
	}
}

// 18.2: what isn't known goes by all others, whatever where says; so does what
// is to several ones, also where that address is said to be known.
func TestWhereCountsForNothing(t *testing.T) {
	for _, where := range append(noPlaces(4), 0, 1, 2, 3) {
		for _, a := range ones {
			checkPorts(t, to(a), 1, forwards(4), where, false, 0, 2, 3)
		}
		for _, a := range groups {
			checkPorts(t, to(a), 1, forwards(4), where, false, 0, 2, 3)
			checkPorts(t, to(a), 1, forwards(4), where, true, 0, 2, 3)
		}
	}
}

// 18.2: of each bit of an address just the lowest one of its first byte makes
// it several ones'.
func TestGroupByBit(t *testing.T) {
	for bit := range 64 {
		for _, a := range []api.Addr{0, 0x0203_0405_0607, 0xfeff_ffff_ffff} {
			var want []int
			if bit == 40 {
				want = []int{0, 2, 3}
			}
			checkPorts(t, to(a^1<<bit), 1, forwards(4), 1, true, want...)
		}
	}
}

// 18.2: who sent a frame counts for nothing, even if nobody may have.
func TestPortsFromAnybody(t *testing.T) {
	for _, from := range slices.Concat(froms, noFroms) {
		f := to(5)
		f.From = from
		checkPorts(t, f, 0, forwards(3), 0, false, 1, 2)
		checkPorts(t, f, 0, forwards(3), 2, true, 2)
	}
}

// 18.2: of one port nothing goes on; of two by the other one.
func TestOneAndTwoPorts(t *testing.T) {
	for _, a := range slices.Concat(ones, groups) {
		for where := -1; where < 3; where++ {
			checkPorts(t, to(a), 0, forwards(1), where, false)
			checkPorts(t, to(a), 0, forwards(1), where, true)
			checkPorts(t, to(a), 0, forwards(2), where, false, 1)
			checkPorts(t, to(a), 1, forwards(2), where, false, 0)
		}
		checkPorts(t, to(a), 0, forwards(2), 1, true, 1)
		checkPorts(t, to(a), 1, forwards(2), 0, true, 0)
	}
	checkPorts(t, to(5), 0, forwards(2), 0, true)
	checkPorts(t, to(5), 1, forwards(2), 1, true)
}

// 18.2: many ports, at both ends and between, of which each third forwards.
func TestManyPorts(t *testing.T) {
	for _, ports := range []int{8, 255, 256, 257, 1000, 70_000} {
		states := make([]int, ports)
		var all []int
		for i := range states {
			states[i] = i % 3 * 2
			if i%3 == 2 {
				all = append(all, i)
			}
		}
		for _, in := range []int{2, all[len(all)/2], all[len(all)-1]} {
			want := slices.DeleteFunc(slices.Clone(all), func(i int) bool { return i == in })
			checkPorts(t, to(5), in, states, 0, false, want...)
			checkPorts(t, to(api.Broadcast), in, states, in, true, want...)
			checkPorts(t, to(5), in, states, want[len(want)-1], true, want[len(want)-1])
			checkPorts(t, to(5), in, states, want[0], true, want[0])
			checkPorts(t, to(5), in, states, in, true)
		}
		checkPorts(t, to(5), 0, states, 2, false)
		checkPorts(t, to(5), 1, states, 2, false)
	}
}

// 18.2: all states of up to three ports, each port in, each port behind which
// one may be known, and frames of each class, against the plain reading.
func TestAllOfFewPorts(t *testing.T) {
	some := []int{-1, disabled, blocking, listening, learning, forwarding, 5}
	frames := []api.Frame{to(5), to(api.Broadcast), to(reserved), tells()}
	rows := [][]int{nil}
	for ports := range 4 {
		for _, states := range rows {
			for in := -1; in <= ports; in++ {
				for where := -1; where <= ports; where++ {
					for _, f := range frames {
						checkPorts(t, f, in, states, where, false, plainPorts(f, in, states, where, false)...)
						checkPorts(t, f, in, states, where, true, plainPorts(f, in, states, where, true)...)
					}
				}
			}
		}
		var longer [][]int
		for _, states := range rows {
			for _, s := range some {
				longer = append(longer, append(slices.Clone(states), s))
			}
		}
		rows = longer
	}
	if want := 7 * 7 * 7 * 7; len(rows) != want {
		t.Fatalf("rows: %d, want %d", len(rows), want)
	}
}
