package relay_test

import (
	"bytes"
	"math"
	"math/rand/v2"
	"slices"
	"testing"

	"treeline/api"
	"treeline/relay"
)

// Frames and states drawn at random, always the same ones. Most numbers are
// few, so that they are often alike; some are any at all.

func pick[N any](draw *rand.Rand, some ...N) N {
	return some[draw.IntN(len(some))]
}

func coin(draw *rand.Rand) bool {
	return draw.IntN(2) == 0
}

func anyAddr(draw *rand.Rand) api.Addr {
	near := api.Addr(reserved + draw.IntN(20) - 2)
	return pick(draw, api.Addr(draw.IntN(4)), near, reserved, near|api.Addr(draw.IntN(3))<<48,
		api.Addr(draw.Uint64())>>16, api.Addr(draw.Uint64()), 1<<40|api.Addr(draw.IntN(4)), pick(draw, ones...), pick(draw, groups...))
}

func anyData(draw *rand.Rand) []byte {
	b := bpdu(make([]byte, draw.IntN(40))...)
	switch draw.IntN(5) {
	case 0:
		b[draw.IntN(len(b))] ^= byte(1 + draw.IntN(255))
	case 1:
		b = b[:draw.IntN(4)]
	case 2:
		for i := range b {
			b[i] = byte(draw.Uint32())
		}
	}
	return b
}

func anyFrame(draw *rand.Rand) api.Frame {
	f := api.Frame{To: anyAddr(draw), From: anyAddr(draw), Data: anyData(draw)}
	f.Kind = pick(draw, uint16(len(f.Data)), uint16(draw.IntN(1501)), uint16(1495+draw.IntN(50)), uint16(draw.Uint32()))
	return f
}

// anyState answers one that forwards, most times.
func anyState(draw *rand.Rand) int {
	return pick(draw, forwarding, forwarding, forwarding, draw.IntN(5), pick(draw, noStates...), int(draw.Uint64()))
}

func anyStates(draw *rand.Rand, ports int) []int {
	states := make([]int, ports)
	for i := range states {
		states[i] = anyState(draw)
	}
	return states
}

// anyPlace answers that of a port, most times, or one ahead of all or behind them.
func anyPlace(draw *rand.Rand, ports int) int {
	if ports == 0 || draw.IntN(12) == 0 {
		return pick(draw, -1, ports, ports+1, math.MinInt, math.MaxInt, int(draw.Uint64()))
	}
	return draw.IntN(ports)
}

// count notes which cases were met.
func count(met map[string]int, f api.Frame, in int, states []int, where int, known bool) {
	met[[]string{"told", "kept", "data"}[plainClass(f)]]++
	for _, s := range []int{learning, forwarding} {
		if plainLearns(f, s) {
			met["learns"]++
		}
	}
	switch {
	case in < 0 || in >= len(states):
		met["no port in"]++
	case states[in] != forwarding:
		met["in doesn't forward"]++
	case plainClass(f) != data:
		met["no data"]++
	case plainGroup(f.To) && known:
		met["group, known"]++
	case plainGroup(f.To):
		met["group"]++
	case !known:
		met["not known"]++
	case where == in:
		met["known behind in"]++
	case where < 0 || where >= len(states):
		met["known behind none"]++
	case states[where] != forwarding:
		met["known behind one that doesn't forward"]++
	default:
		met["known"]++
	}
}

// checkAny holds all three calls against the plain reading.
func checkAny(t *testing.T, f api.Frame, in int, states []int, where int, known bool) {
	t.Helper()
	checkClass(t, f, plainClass(f))
	for _, s := range append(slices.Clone(allStates), in, where) {
		checkLearns(t, f, s, plainLearns(f, s))
	}
	checkPorts(t, f, in, states, where, known, plainPorts(f, in, states, where, known)...)
	keeps(t, f, in, states, where, known)
}

// 18.1 to 18.3: frames and states at random, against the plain reading.
func TestAny(t *testing.T) {
	draw := rand.New(rand.NewPCG(18, 1))
	met := map[string]int{}
	for range 60_000 {
		ports := pick(draw, draw.IntN(3), draw.IntN(6), draw.IntN(40))
		f, states := anyFrame(draw), anyStates(draw, ports)
		in, where, known := anyPlace(draw, ports), anyPlace(draw, ports), coin(draw)
		if ports > 0 && draw.IntN(8) == 0 {
			where = in
		}
		count(met, f, in, states, where, known)
		checkAny(t, f, in, states, where, known)
	}
	for _, name := range []string{
		"told", "kept", "data", "learns", "no port in", "in doesn't forward", "no data", "group, known", "group",
		"not known", "known behind in", "known behind none", "known behind one that doesn't forward", "known",
	} {
		if met[name] < 100 {
			t.Errorf("%s: met %d times only", name, met[name])
		}
	}
}

// Rule 6: what is answered hangs on nothing that was asked ahead of it.
func TestAskedInAnyOrder(t *testing.T) {
	draw := rand.New(rand.NewPCG(18, 2))
	var frames []api.Frame
	var states [][]int
	for range 300 {
		frames = append(frames, anyFrame(draw))
		states = append(states, anyStates(draw, 6))
	}
	for range 20_000 {
		f, s := pick(draw, frames...), pick(draw, states...)
		in, where, known := draw.IntN(8)-1, draw.IntN(8)-1, coin(draw)
		if got, want := relay.Ports(f, in, s, where, known), plainPorts(f, in, s, where, known); !slices.Equal(got, want) {
			t.Fatalf("Ports(%+v, %d, %d, %d, %t) = %d, want %d", f, in, s, where, known, got, want)
		}
	}
}

// FuzzOfAny takes each byte for a port's state.
func FuzzOfAny(f *testing.F) {
	f.Add(uint64(api.Reserved), uint64(2), uint16(4), bpdu(9), 0, []byte{4, 4, 1, 4}, 1, true)
	f.Add(uint64(5), uint64(2), uint16(0x0800), []byte{}, 1, []byte{4, 4}, 0, false)
	f.Add(uint64(api.Broadcast), uint64(1<<40), uint16(1501), bytes.Repeat([]byte{1}, 9), 3, []byte{0, 1, 2, 4, 3, 4}, -1, true)
	f.Fuzz(func(t *testing.T, to, from uint64, kind uint16, b []byte, in int, bytes []byte, where int, known bool) {
		states := make([]int, len(bytes))
		for i, s := range bytes {
			states[i] = int(int8(s))
		}
		checkAny(t, api.Frame{To: api.Addr(to), From: api.Addr(from), Kind: kind, Data: b}, in, states, where, known)
	})
}
