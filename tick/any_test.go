package tick_test

import (
	"fmt"
	"math"
	"math/rand/v2"
	"testing"

	"treeline/api"
	"treeline/heard"
	"treeline/rank"
	"treeline/tick"
	"treeline/tree"
)

// Views, and what they hear, drawn at random, always the same ones. Most
// numbers are few, so that they are often alike; some are any at all.

func pick[N any](draw *rand.Rand, some ...N) N {
	return some[draw.IntN(len(some))]
}

func coin(draw *rand.Rand) bool {
	return draw.IntN(2) == 0
}

// anyTimer answers a timer that often just runs out by the next second, of
// that limit, or just doesn't.
func anyTimer(draw *rand.Rand, limit int) api.Timer {
	if coin(draw) {
		return rests
	}
	near := min(max(limit, 0), longest) - 256 + draw.IntN(3) - 1
	return runs(max(0, pick(draw, near, near, near-256, near+256, 0, 255, 256*draw.IntN(30), draw.IntN(70000), draw.IntN(longest+1), longest-draw.IntN(400))))
}

func anyTime(draw *rand.Rand) int {
	if draw.IntN(8) == 0 {
		return pick(draw, 65535, 0, 1, -draw.IntN(9), longest, longest+1, math.MaxInt, math.MinInt, int(draw.Uint64()))
	}
	return pick(draw, 5120, 512, 256*draw.IntN(42), draw.IntN(66000))
}

func anyTimes(draw *rand.Rand) tree.Times {
	return tree.Times{MaxAge: anyTime(draw), Hello: anyTime(draw), Delay: anyTime(draw)}
}

func anyId(draw *rand.Rand) api.BridgeId {
	if draw.IntN(8) == 0 {
		return pick(draw, 0, me, api.BridgeId(draw.Uint64()), math.MaxUint64, 1<<48+2, 1<<63)
	}
	return api.BridgeId(1 + draw.IntN(5))
}

func anyCost(draw *rand.Rand) uint32 {
	if draw.IntN(8) == 0 {
		return pick(draw, draw.Uint32(), 1<<31-1, 1<<31, math.MaxUint32-19, math.MaxUint32)
	}
	return uint32(draw.IntN(5))
}

// anyPort answers a port of a view: what it holds is often its own.
func anyPort(draw *rand.Rand, x tree.Tree, id api.PortId) api.Port {
	p := api.Port{
		Id: id, State: pick(draw, disabled, blocking, listening, learning, forwarding, listening, learning, learning, draw.IntN(9)-2), Cost: anyCost(draw),
		Held: rank.Vector{Root: anyId(draw), Cost: anyCost(draw), Bridge: anyId(draw), Port: api.PortId(draw.IntN(6))},
		Ack:  coin(draw), Pending: coin(draw),
		Age: anyTimer(draw, x.Now.MaxAge), Delay: anyTimer(draw, x.Now.Delay), Hold: anyTimer(draw, 256),
	}
	if coin(draw) {
		p.Held.Bridge = x.Own
	}
	if coin(draw) {
		p.Held.Port = id
	}
	return p
}

// anyView answers a view of so many ports, whose numbers are unlike. Half of
// them have settled.
func anyView(draw *rand.Rand, ports int) tree.Tree {
	x := tree.Tree{
		Own: anyId(draw), Root: anyId(draw), Cost: anyCost(draw), RootPort: draw.IntN(ports+3) - 1,
		Now: anyTimes(draw), Mine: anyTimes(draw),
		Detected: coin(draw), Change: coin(draw),
	}
	x.Hello, x.Tcn, x.Told = anyTimer(draw, x.Now.Hello), anyTimer(draw, x.Mine.Hello), anyTimer(draw, plainTold(x))
	base, by := 1, 1
	if draw.IntN(4) == 0 {
		base, by = draw.IntN(math.MaxUint16+1), 257
	}
	for _, j := range draw.Perm(ports) {
		x.Ports = append(x.Ports, anyPort(draw, x, api.PortId(base+by*j)))
	}
	if coin(draw) {
		detected := x.Detected
		x, _ = plainSettle(x)
		x.Detected = detected
	}
	return x
}

// anyPlace answers that of a port, most times, or one ahead of all or behind them.
func anyPlace(draw *rand.Rand, x tree.Tree) int {
	if len(x.Ports) == 0 || draw.IntN(16) == 0 {
		return pick(draw, -1, len(x.Ports), len(x.Ports)+1)
	}
	return draw.IntN(len(x.Ports))
}

// anyTelling answers a configuration that is much like what a port holds, or
// what its bridge tells; of no port, any one.
func anyTelling(draw *rand.Rand, x tree.Tree, place int) api.Bpdu {
	b := api.Bpdu{
		Change: coin(draw), Ack: coin(draw),
		Root: anyId(draw), Cost: anyCost(draw), Bridge: anyId(draw), Port: api.PortId(draw.IntN(6)),
		MaxAge: pick(draw, 5120, 2560, uint16(draw.Uint32()), 65535), Hello: pick(draw, 256, 512, uint16(draw.Uint32())), Delay: pick(draw, 512, 1024, uint16(draw.Uint32())),
	}
	b.Age = uint16(draw.IntN(int(b.MaxAge) + 1))
	if coin(draw) {
		b.Age = min(b.Age, uint16(draw.IntN(600)))
	}
	if !isPlace(x, place) || draw.IntN(4) == 0 {
		return b
	}
	v := x.Ports[place].Held
	if draw.IntN(3) == 0 {
		v = rank.Vector{Root: x.Root, Cost: x.Cost, Bridge: x.Own, Port: x.Ports[place].Id}
	}
	b.Root, b.Cost, b.Bridge, b.Port = v.Root, v.Cost, v.Bridge, v.Port
	switch draw.IntN(6) {
	case 0:
		b.Root += pick[api.BridgeId](draw, 1, math.MaxUint64)
	case 1:
		b.Cost += pick[uint32](draw, 1, math.MaxUint32)
	case 2:
		b.Bridge += pick[api.BridgeId](draw, 1, math.MaxUint64)
	case 3:
		b.Port += pick[api.PortId](draw, 1, math.MaxUint16)
	}
	return b
}

// anyBytes answers bytes of a Bpdu: most are as they should be, others cut, or
// of a bit turned.
func anyBytes(draw *rand.Rand, x tree.Tree, place int) []byte {
	c := anyTelling(draw, x, place)
	c.Tcn = draw.IntN(5) == 0
	b := plainPut(c)
	switch draw.IntN(10) {
	case 0:
		return b[:draw.IntN(len(b))]
	case 1:
		b[draw.IntN(len(b))] ^= 1 << draw.IntN(8)
	}
	return b
}

// hears lets a view hear something, by one of chapter 15's calls.
func hears(draw *rand.Rand, x tree.Tree) (tree.Tree, []api.Out) {
	place := anyPlace(draw, x)
	switch draw.IntN(5) {
	case 0, 1:
		return heard.Config(x, place, anyTelling(draw, x, place))
	case 2:
		return heard.Tcn(x, place)
	}
	x, out, _ := heard.Bytes(x, place, anyBytes(draw, x, place))
	return x, out
}

func TestOfAnyView(t *testing.T) {
	draw := rand.New(rand.NewPCG(16, 1))
	met := map[string]int{}
	for range 100000 {
		x := anyView(draw, draw.IntN(6))
		checkPlain(t, x)
		count(met, x)
	}
	for _, what := range []string{
		"hello", "hello not", "tcn", "tcn not", "told", "told not",
		"delay", "delay not", "age", "age not", "hold", "two delays", "two ages", "two holds",
		"a change by the root", "a change by another", "no change",
		"leads from now on", "leads before", "another leads", "another leads from now on",
		"owed, told", "owed, not told", "owes behind a hold",
		"tells by hello, and leads", "detected behind told", "two tcns",
	} {
		if met[what] < 200 {
			t.Errorf("%q was met %d times only: %v", what, met[what], met)
		}
	}
}

// count tells which cases of the chapter a view's second is of.
func count(met map[string]int, x tree.Tree) {
	fired, r := plainFires(x)
	y, out := plainTick(x)
	countTimer(met, "hello", x.Hello, r.hello)
	countTimer(met, "tcn", x.Tcn, r.tcn)
	countTimer(met, "told", x.Told, r.told)
	var many [3]int
	for i, p := range x.Ports {
		for n, over := range []bool{r.delay[i], r.age[i], r.hold[i]} {
			countTimer(met, []string{"delay", "age", "hold"}[n], []api.Timer{p.Delay, p.Age, p.Hold}[n], over)
			if over {
				many[n]++
			}
		}
	}
	for n, name := range []string{"two delays", "two ages", "two holds"} {
		if many[n] >= 2 {
			met[name]++
		}
	}
	countChange(met, fired, y, r)
	countRoot(met, x, y, r, many[1])
	countOwed(met, x, y, r)
	tcns := 0
	for _, o := range out {
		if len(o.Frame.Data) < 38 {
			tcns++
		}
	}
	if tcns >= 2 {
		met["two tcns"]++
	}
}

func countTimer(met map[string]int, name string, timer api.Timer, over bool) {
	switch {
	case over:
		met[name]++
	case timer.On:
		met[name+" not"]++
	}
}

// countChange tells it of ports that forward from then on.
func countChange(met map[string]int, fired, y tree.Tree, r ranOut) {
	itself := false
	for _, p := range fired.Ports {
		itself = itself || p.Held.Bridge == fired.Own
	}
	for i, p := range fired.Ports {
		switch {
		case !r.delay[i] || p.State != learning:
		case itself && fired.Root == fired.Own:
			met["a change by the root"]++
		case itself:
			met["a change by another"]++
		default:
			met["no change"]++
		}
	}
	if r.told && y.Detected {
		met["detected behind told"]++
	}
}

// countRoot tells it of views in which a port forgot what it held.
func countRoot(met map[string]int, x, y tree.Tree, r ranOut, ages int) {
	before, behind := x.Root == x.Own, y.Root == y.Own
	switch {
	case ages == 0:
	case before && behind:
		met["leads before"]++
	case before:
		met["another leads from now on"]++
	case behind:
		met["leads from now on"]++
		if r.hello {
			met["tells by hello, and leads"]++
		}
	default:
		met["another leads"]++
	}
}

// countOwed tells it of ports whose Hold ran out.
func countOwed(met map[string]int, x, y tree.Tree, r ranOut) {
	for i, p := range x.Ports {
		switch {
		case !r.hold[i] || !p.Pending:
		case y.Ports[i].Pending && y.Ports[i].Hold.On:
			met["owes behind a hold"]++
		case y.Ports[i].Hold.On:
			met["owed, told"]++
		default:
			met["owed, not told"]++
		}
	}
}

func TestOfViewsWithManyPorts(t *testing.T) {
	draw := rand.New(rand.NewPCG(16, 2))
	for range 12 {
		checkOnePlain(t, anyView(draw, 900+draw.IntN(101)))
	}
}

// checkOnePlain is checkPlain of views so great that once is enough.
func checkOnePlain(t *testing.T, x tree.Tree) {
	t.Helper()
	want, out := plainTick(x)
	checkOnce(t, x, want, out)
}

// TestAllOfAThousand has all that a thousand ports may do be done by one second.
func TestAllOfAThousand(t *testing.T) {
	x := ledView(1000)
	x.Hello, x.Tcn, x.Told = ahead(nowHello), ahead(mineHello), ahead(mineTold)
	for i := range x.Ports {
		p := &x.Ports[i]
		p.Delay, p.Age, p.Hold = ahead(nowDelay), ahead(nowMaxAge), runs(0)
	}
	checkOnePlain(t, x)
}

// TestLongRows lets one view hear this and that, and second upon second be
// over, each held against the plain reading.
func TestLongRows(t *testing.T) {
	for ports := range 5 {
		t.Run(fmt.Sprintf("%d ports", ports), func(t *testing.T) {
			draw := rand.New(rand.NewPCG(16, uint64(10+ports)))
			for range 300 {
				x := anyView(draw, ports)
				for range 60 {
					for range draw.IntN(3) {
						x, _ = hears(draw, x)
					}
					checkPlain(t, x)
					x, _ = tick.Tick(x)
				}
			}
		})
	}
}

// FuzzOfAny hands in any view at all of ports with unlike numbers, whatever it
// knows and whichever its times, and reads its answers off the chapter.
func FuzzOfAny(f *testing.F) {
	f.Add(uint64(1), 3, uint64(me), uint64(other), 0, 5120, 512, 3840)
	f.Add(uint64(2), 0, uint64(0), uint64(0), -1, 0, 0, 0)
	f.Add(uint64(3), 1000, uint64(math.MaxUint64), uint64(1), math.MaxInt, math.MaxInt, math.MinInt, -1)
	f.Add(uint64(4), 4, uint64(5), uint64(5), -1, 256, 256, 256)
	f.Fuzz(func(t *testing.T, seed uint64, ports int, id, root uint64, leads, maxAge, hello, delay int) {
		draw := rand.New(rand.NewPCG(seed, 16))
		x := anyView(draw, min(max(ports, 0), 1000))
		x.Own, x.Root, x.RootPort = api.BridgeId(id), api.BridgeId(root), leads
		if coin(draw) {
			x.Now = tree.Times{MaxAge: maxAge, Hello: hello, Delay: delay}
		} else {
			x.Mine = tree.Times{MaxAge: maxAge, Hello: hello, Delay: delay}
		}
		checkOnePlain(t, x)
		checkOneEach(t, draw, x, 10)
		checkNotTooOld(t, x)
	})
}
