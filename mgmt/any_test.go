package mgmt_test

import (
	"fmt"
	"math"
	"math/rand/v2"
	"testing"

	"treeline/api"
	"treeline/heard"
	"treeline/rank"
	"treeline/tick"
	"treeline/tree"
)

// Views, and what is changed of them, drawn at random, always the same ones.
// Most numbers are few, so that they are often alike; some are any at all.

func pick[N any](draw *rand.Rand, some ...N) N {
	return some[draw.IntN(len(some))]
}

func coin(draw *rand.Rand) bool {
	return draw.IntN(2) == 0
}

func anyTimer(draw *rand.Rand) api.Timer {
	if coin(draw) {
		return rests
	}
	return runs(pick(draw, 0, 1, 255, 256, 256*draw.IntN(30), draw.IntN(70000), draw.IntN(longest+1), longest-draw.IntN(400)))
}

func anyTime(draw *rand.Rand) int {
	if draw.IntN(8) == 0 {
		return pick(draw, 65535, 65536, 0, 1, -draw.IntN(9), longest, longest+1, math.MaxInt, math.MinInt, int(draw.Uint64()))
	}
	return pick(draw, 5120, 512, 256*draw.IntN(42), draw.IntN(66000))
}

func anyTimes(draw *rand.Rand) tree.Times {
	return tree.Times{MaxAge: anyTime(draw), Hello: anyTime(draw), Delay: anyTime(draw)}
}

// anyPrio answers one that is mostly among the few that ids have.
func anyPrio(draw *rand.Rand) uint16 {
	return pick(draw, 0, 1, 2, 3, 4, uint16(draw.IntN(4)), uint16(draw.Uint32()), math.MaxUint16)
}

func anyId(draw *rand.Rand) api.BridgeId {
	if draw.IntN(8) == 0 {
		return pick(draw, 0, me, api.BridgeId(draw.Uint64()), math.MaxUint64, 1<<48-1, 1<<48, 1<<63)
	}
	return api.BridgeId(draw.IntN(4))<<48 + api.BridgeId(1+draw.IntN(3))
}

func anyCost(draw *rand.Rand) uint32 {
	if draw.IntN(8) == 0 {
		return pick(draw, draw.Uint32(), 65535, 65536, 1<<31-1, 1<<31, math.MaxUint32-19, math.MaxUint32)
	}
	return uint32(draw.IntN(6))
}

// anyPort answers a port of a view: what it holds is often its own, or of the
// root that others hold.
func anyPort(draw *rand.Rand, x tree.Tree, id api.PortId) api.Port {
	p := api.Port{
		Id: id, State: pick(draw, disabled, disabled, blocking, listening, learning, forwarding, forwarding, draw.IntN(9)-2), Cost: anyCost(draw),
		Held: rank.Vector{Root: anyId(draw), Cost: anyCost(draw), Bridge: anyId(draw), Port: api.PortId(draw.IntN(6))},
		Ack:  coin(draw), Pending: coin(draw),
		Age: anyTimer(draw), Delay: anyTimer(draw), Hold: anyTimer(draw),
	}
	if coin(draw) {
		p.Held.Bridge = x.Own
	}
	if coin(draw) {
		p.Held.Port = id
	}
	if draw.IntN(3) > 0 {
		p.Held.Root = x.Root
	}
	return p
}

// anyView answers a view of so many ports, whose numbers are unlike. Half of
// them have settled.
func anyView(draw *rand.Rand, ports int) tree.Tree {
	x := tree.Tree{
		Own: anyId(draw), Root: min(anyId(draw), anyId(draw)), Cost: anyCost(draw), RootPort: draw.IntN(ports+3) - 1,
		Now: anyTimes(draw), Mine: anyTimes(draw),
		Detected: coin(draw), Change: coin(draw),
		Hello: anyTimer(draw), Tcn: anyTimer(draw), Told: anyTimer(draw),
	}
	if draw.IntN(3) == 0 {
		x.Root = x.Own
	}
	base, by := 1, 1
	if draw.IntN(4) == 0 {
		base, by = draw.IntN(math.MaxUint16+1), 257
	}
	for _, j := range draw.Perm(ports) {
		x.Ports = append(x.Ports, anyPort(draw, x, api.PortId(base+by*j)))
	}
	if coin(draw) {
		detected := x.Detected
		x, _ = plainSettle(x)
		x.Detected = detected
	}
	return x
}

// anyPlace answers that of a port, most times, or one ahead of all or behind them.
func anyPlace(draw *rand.Rand, x tree.Tree) int {
	if len(x.Ports) == 0 || draw.IntN(16) == 0 {
		return pick(draw, -1, len(x.Ports), len(x.Ports)+1, math.MinInt, math.MaxInt)
	}
	return draw.IntN(len(x.Ports))
}

// A change is one of the layer's calls: its name, with what it is told, and
// what the chapter says that it is.
type change struct {
	name  string
	call  step
	plain step
}

// changesOf are the four calls, of a place, a cost and a priority.
func changesOf(t *testing.T, x tree.Tree, i int, cost uint32, prio uint16) []change {
	t.Helper()
	_, _, e := plainCost(x, i, cost)
	return []change{
		{fmt.Sprintf("On(%d)", i), onOf(i), func(x tree.Tree) (tree.Tree, []api.Out) { return plainOn(x, i) }},
		{fmt.Sprintf("Off(%d)", i), offOf(i), func(x tree.Tree) (tree.Tree, []api.Out) { return plainOff(x, i) }},
		{fmt.Sprintf("Cost(%d, %d)", i, cost), costOf(t, i, cost, e), func(x tree.Tree) (tree.Tree, []api.Out) {
			x, out, _ := plainCost(x, i, cost)
			return x, out
		}},
		{fmt.Sprintf("Prio(%d)", prio), prioOf(prio), func(x tree.Tree) (tree.Tree, []api.Out) { return plainPrio(x, prio) }},
	}
}

// checkAny holds each of the four calls against the plain reading. It answers
// one of the views that the calls answered.
func checkAny(t *testing.T, draw *rand.Rand, x tree.Tree, met map[string]int) tree.Tree {
	t.Helper()
	place, cost, prio := anyPlace(draw, x), anyCost(draw), anyPrio(draw)
	changes := changesOf(t, x, place, cost, prio)
	for _, c := range changes {
		want, out := c.plain(x)
		check(t, c.name, c.call, x, want, out)
	}
	count(met, x, place, cost, prio)
	y, _ := changes[draw.IntN(len(changes))].call(x)
	return y
}

// count tells which cases of the chapter these are.
func count(met map[string]int, x tree.Tree, place int, cost uint32, prio uint16) {
	y, out := plainPrio(x, prio)
	countAgain(met, "prio", x, y, out)
	for i := range x.Ports {
		if plainDesignated(x, i) && x.Ports[i].Held.Root != x.Own && y.Own != x.Own {
			met["prio, designated"]++
		}
	}
	z, out, e := plainCost(x, place, cost)
	met[fmt.Sprintf("cost, error %d", e)]++
	if e == fine {
		countAgain(met, "cost", x, z, out)
		if x.RootPort != z.RootPort && x.RootPort == place {
			met["cost, leads no more"]++
		}
		if x.RootPort != z.RootPort && z.RootPort == place {
			met["cost, leads"]++
		}
	}
	if !isPlace(x, place) {
		met["no place"]++
		return
	}
	state := min(max(x.Ports[place].State, disabled), forwarding)
	met[fmt.Sprintf("state %d", state)]++
	if state == disabled {
		on, out := plainOn(x, place)
		countLost(met, "on", x, on, out)
		return
	}
	off, out := plainOff(x, place)
	countAgain(met, "off", x, off, out)
	if x.RootPort == place {
		met["off, led"]++
	}
}

// countAgain tells it of a view that has settled again.
func countAgain(met map[string]int, name string, x, y tree.Tree, out []api.Out) {
	before, behind := x.Root == x.Own, y.Root == y.Own
	met[fmt.Sprintf("%s, the root %t %t", name, before, behind)]++
	if len(out) > 1 {
		met[name+", much goes out"]++
	}
	if !behind {
		countLost(met, name, x, y, out)
	}
}

// countLost tells it of a view of which a port may have been lost.
func countLost(met map[string]int, name string, x, y tree.Tree, out []api.Out) {
	for i, p := range x.Ports {
		if (p.State == learning || p.State == forwarding) && y.Ports[i].State == blocking {
			met[fmt.Sprintf("%s, lost, detected %t", name, x.Detected)]++
			if len(out) == 1 {
				met[name+", a tcn"]++
			}
			return
		}
	}
}

func TestOfAnyView(t *testing.T) {
	draw := rand.New(rand.NewPCG(17, 1))
	met := map[string]int{}
	for range 60000 {
		checkAny(t, draw, anyView(draw, draw.IntN(6)), met)
	}
	for _, what := range []string{
		"no place", "state 0", "state 1", "state 2", "state 3", "state 4",
		"cost, error 0", "cost, error 3", "cost, error 8", "cost, leads", "cost, leads no more",
		"off, led", "prio, designated",
		"on, lost, detected true", "on, lost, detected false", "on, a tcn",
	} {
		checkMet(t, met, what)
	}
	for _, name := range []string{"off", "cost", "prio"} {
		for _, what := range []string{
			"the root true true", "the root true false", "the root false true", "the root false false",
			"much goes out", "lost, detected true", "lost, detected false", "a tcn",
		} {
			checkMet(t, met, name+", "+what)
		}
	}
}

func checkMet(t *testing.T, met map[string]int, what string) {
	t.Helper()
	if met[what] < 100 {
		t.Errorf("%q was met %d times only", what, met[what])
	}
}

func TestOfViewsWithManyPorts(t *testing.T) {
	draw := rand.New(rand.NewPCG(17, 2))
	for range 20 {
		checkAny(t, draw, anyView(draw, 900+draw.IntN(101)), map[string]int{})
	}
}

// anyTelling answers a configuration that is much like what a port holds, or
// what its bridge tells; of no port, any one.
func anyTelling(draw *rand.Rand, x tree.Tree, place int) api.Bpdu {
	b := api.Bpdu{
		Change: coin(draw), Ack: coin(draw),
		Root: anyId(draw), Cost: anyCost(draw) % (1 << 31), Bridge: anyId(draw), Port: api.PortId(draw.IntN(6)),
		MaxAge: pick(draw, 5120, 2560, uint16(draw.Uint32()), 65535), Hello: pick(draw, 256, 512, uint16(draw.Uint32())), Delay: pick(draw, 512, 1024, uint16(draw.Uint32())),
	}
	b.Age = uint16(draw.IntN(int(b.MaxAge) + 1))
	if coin(draw) {
		b.Age = min(b.Age, uint16(draw.IntN(600)))
	}
	if !isPlace(x, place) || draw.IntN(4) == 0 {
		return b
	}
	v := x.Ports[place].Held
	if draw.IntN(3) == 0 {
		v = rank.Vector{Root: x.Root, Cost: x.Cost, Bridge: x.Own, Port: x.Ports[place].Id}
	}
	b.Root, b.Cost, b.Bridge, b.Port = v.Root, v.Cost, v.Bridge, v.Port
	switch draw.IntN(6) {
	case 0:
		b.Root += pick[api.BridgeId](draw, 1, math.MaxUint64)
	case 1:
		b.Cost += pick[uint32](draw, 1, math.MaxUint32)
	case 2:
		b.Bridge += pick[api.BridgeId](draw, 1, math.MaxUint64)
	case 3:
		b.Port += pick[api.PortId](draw, 1, math.MaxUint16)
	}
	return b
}

// anyBytes answers bytes of a Bpdu: most are as they should be, others cut.
func anyBytes(draw *rand.Rand, x tree.Tree, place int) []byte {
	c := anyTelling(draw, x, place)
	c.Tcn = draw.IntN(5) == 0
	b := plainPut(c)
	if draw.IntN(10) == 0 {
		return b[:draw.IntN(len(b))]
	}
	return b
}

// goesOn lets a view hear something, or a second be over, by the calls of the
// chapters ahead.
func goesOn(draw *rand.Rand, x tree.Tree) (tree.Tree, []api.Out) {
	place := anyPlace(draw, x)
	switch draw.IntN(6) {
	case 0, 1:
		return heard.Config(x, place, anyTelling(draw, x, place))
	case 2:
		return heard.Tcn(x, place)
	case 3:
		x, out, _ := heard.Bytes(x, place, anyBytes(draw, x, place))
		return x, out
	}
	return tick.Tick(x)
}

// TestLongRows changes one view again and again, and lets it hear this and
// that, and seconds be over meanwhile.
func TestLongRows(t *testing.T) {
	for ports := range 5 {
		t.Run(fmt.Sprintf("%d ports", ports), func(t *testing.T) {
			draw := rand.New(rand.NewPCG(17, uint64(10+ports)))
			met := map[string]int{}
			for range 100 {
				x := anyView(draw, ports)
				for range 60 {
					x = checkAny(t, draw, x, met)
					for range draw.IntN(4) {
						x, _ = goesOn(draw, x)
					}
				}
			}
		})
	}
}

// TestRowsOfChangesAlone does so with nothing between.
func TestRowsOfChangesAlone(t *testing.T) {
	draw := rand.New(rand.NewPCG(17, 3))
	met := map[string]int{}
	for range 400 {
		x := anyView(draw, 1+draw.IntN(5))
		for range 20 {
			x = checkAny(t, draw, x, met)
		}
	}
}

// FuzzOfAny hands in any view at all of ports with unlike numbers, whatever it
// knows, any place, cost and priority, and reads its answers off the chapter.
func FuzzOfAny(f *testing.F) {
	f.Add(uint64(1), 3, uint64(me), uint64(other), 0, 1, uint32(19), uint16(0))
	f.Add(uint64(2), 0, uint64(0), uint64(0), -1, 0, uint32(0), uint16(1))
	f.Add(uint64(3), 1000, uint64(math.MaxUint64), uint64(1), math.MaxInt, math.MinInt, uint32(65536), uint16(math.MaxUint16))
	f.Add(uint64(4), 4, uint64(5), uint64(5), -1, 2, uint32(65535), uint16(2))
	f.Fuzz(func(t *testing.T, seed uint64, ports int, id, root uint64, leads, place int, cost uint32, prio uint16) {
		draw := rand.New(rand.NewPCG(seed, 17))
		x := anyView(draw, min(max(ports, 0), 1000))
		x.Own, x.Root, x.RootPort = api.BridgeId(id), api.BridgeId(root), leads
		for _, c := range changesOf(t, x, place, cost, prio) {
			want, out := c.plain(x)
			check(t, c.name, c.call, x, want, out)
		}
		if len(x.Ports) > 0 {
			checkSwitchedOff(t, draw, x, 10)
		}
	})
}
