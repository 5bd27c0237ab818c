package heard_test

import (
	"fmt"
	"math"
	"math/rand/v2"
	"testing"

	"treeline/api"
	"treeline/heard"
	"treeline/rank"
	"treeline/tree"
)

// Views, configurations and bytes drawn at random, always the same ones. Most
// numbers are few, so that they are often alike; some are any at all.

func pick[N any](draw *rand.Rand, some ...N) N {
	return some[draw.IntN(len(some))]
}

func coin(draw *rand.Rand) bool {
	return draw.IntN(2) == 0
}

func anyTimer(draw *rand.Rand) api.Timer {
	if coin(draw) {
		return rests
	}
	return runs(pick(draw, 0, 255, 256, 256*draw.IntN(30), draw.IntN(70000), draw.IntN(longest+1), longest))
}

func anyTime(draw *rand.Rand) int {
	return pick(draw, 5120, 512, 256*draw.IntN(42), draw.IntN(66000), 65535, 0, 1, -draw.IntN(9))
}

func anyId(draw *rand.Rand) api.BridgeId {
	if draw.IntN(8) == 0 {
		return pick(draw, 0, me, api.BridgeId(draw.Uint64()), math.MaxUint64, 1<<48+2, 1<<63)
	}
	return api.BridgeId(1 + draw.IntN(5))
}

func anyCost(draw *rand.Rand) uint32 {
	if draw.IntN(8) == 0 {
		return pick(draw, draw.Uint32(), 1<<31-1, 1<<31, math.MaxUint32-19, math.MaxUint32)
	}
	return uint32(draw.IntN(5))
}

// anyPort answers a port of a bridge: what it holds is often its own.
func anyPort(draw *rand.Rand, bridge api.BridgeId, id api.PortId) api.Port {
	p := api.Port{
		Id: id, State: pick(draw, disabled, blocking, listening, learning, forwarding, learning, forwarding, draw.IntN(9)-2), Cost: anyCost(draw),
		Held: rank.Vector{Root: anyId(draw), Cost: anyCost(draw), Bridge: anyId(draw), Port: api.PortId(draw.IntN(6))},
		Ack:  coin(draw), Pending: coin(draw),
		Age: anyTimer(draw), Delay: anyTimer(draw), Hold: anyTimer(draw),
	}
	if coin(draw) {
		p.Held.Bridge = bridge
	}
	if coin(draw) {
		p.Held.Port = id
	}
	return p
}

// anyView answers a view of so many ports, whose numbers are unlike. Half of
// them have settled.
func anyView(draw *rand.Rand, ports int) tree.Tree {
	x := tree.Tree{
		Own: anyId(draw), Root: anyId(draw), Cost: anyCost(draw), RootPort: draw.IntN(ports+3) - 1,
		Now:      tree.Times{MaxAge: anyTime(draw), Hello: anyTime(draw), Delay: anyTime(draw)},
		Mine:     tree.Times{MaxAge: anyTime(draw), Hello: anyTime(draw), Delay: anyTime(draw)},
		Detected: coin(draw), Change: coin(draw),
		Hello: anyTimer(draw), Tcn: anyTimer(draw), Told: anyTimer(draw),
	}
	base, by := 1, 1
	if draw.IntN(4) == 0 {
		base, by = draw.IntN(math.MaxUint16+1), 257
	}
	for _, j := range draw.Perm(ports) {
		x.Ports = append(x.Ports, anyPort(draw, x.Own, api.PortId(base+by*j)))
	}
	if coin(draw) {
		detected := x.Detected
		x, _ = plainSettle(x)
		x.Detected = detected
	}
	return x
}

// anyPlace answers that of a port, most times, or one ahead of all or behind them.
func anyPlace(draw *rand.Rand, x tree.Tree) int {
	if len(x.Ports) == 0 || draw.IntN(16) == 0 {
		return pick(draw, -1, len(x.Ports), len(x.Ports)+1)
	}
	return draw.IntN(len(x.Ports))
}

// anyTelling answers a configuration that is much like what a port holds, or
// what its bridge tells; of no port, any one.
func anyTelling(draw *rand.Rand, x tree.Tree, place int) api.Bpdu {
	b := api.Bpdu{
		Change: coin(draw), Ack: coin(draw),
		Root: anyId(draw), Cost: anyCost(draw), Bridge: anyId(draw), Port: api.PortId(draw.IntN(6)),
		MaxAge: pick(draw, 5120, 2560, uint16(draw.Uint32()), 65535), Hello: uint16(draw.Uint32()), Delay: uint16(draw.Uint32()),
	}
	b.Age = uint16(draw.IntN(int(b.MaxAge) + 1))
	if coin(draw) {
		b.Age = min(b.Age, uint16(draw.IntN(600)))
	}
	if !isPlace(x, place) || draw.IntN(4) == 0 {
		return b
	}
	v := x.Ports[place].Held
	if draw.IntN(3) == 0 {
		v = rank.Vector{Root: x.Root, Cost: x.Cost, Bridge: x.Own, Port: x.Ports[place].Id}
	}
	b.Root, b.Cost, b.Bridge, b.Port = v.Root, v.Cost, v.Bridge, v.Port
	switch draw.IntN(6) {
	case 0:
		b.Root += pick[api.BridgeId](draw, 1, math.MaxUint64)
	case 1:
		b.Cost += pick[uint32](draw, 1, math.MaxUint32)
	case 2:
		b.Bridge += pick[api.BridgeId](draw, 1, math.MaxUint64)
	case 3:
		b.Port += pick[api.PortId](draw, 1, math.MaxUint16)
	}
	return b
}

// anyBytes answers bytes of a Bpdu: most are as they should be, others cut,
// longer, of a bit turned, too far or too old, or any at all.
func anyBytes(draw *rand.Rand, x tree.Tree, place int) []byte {
	c := anyTelling(draw, x, place)
	c.Tcn = draw.IntN(5) == 0
	switch draw.IntN(12) {
	case 0:
		c.Age = c.MaxAge
	case 1:
		c.Cost |= 1 << 31
	}
	b := plainPut(c)
	switch draw.IntN(10) {
	case 0:
		return b[:draw.IntN(len(b))]
	case 1:
		return append(b, make([]byte, draw.IntN(30))...)
	case 2:
		b[draw.IntN(len(b))] ^= 1 << draw.IntN(8)
	case 3:
		b = b[:draw.IntN(len(b)+1)]
		for i := range b {
			b[i] = pick(draw, 0, byte(draw.Uint32()))
		}
	}
	return b
}

// checkAny holds every call against the plain reading.
func checkAny(t *testing.T, x tree.Tree, place int, c api.Bpdu, b []byte) {
	t.Helper()
	want, out := plainSettle(own(x))
	check(t, "Settle", heard.Settle, x, want, out)
	if x.Root == x.Own {
		want, out = plainLead(own(x))
		check(t, "Lead", heard.Lead, x, want, out)
	}
	want, out = plainConfig(x, place, c)
	check(t, fmt.Sprintf("Config %d of %+v", place, c), configOf(place, c), x, want, out)
	want, out = plainTcn(x, place)
	check(t, fmt.Sprintf("Tcn %d", place), tcnOf(place), x, want, out)
	want, out, e := plainBytes(x, place, b)
	check(t, fmt.Sprintf("Bytes %d of %x", place, b), bytesOf(t, place, b, e), x, want, out)
}

func TestOfAnyView(t *testing.T) {
	draw := rand.New(rand.NewPCG(15, 1))
	met := map[string]int{}
	for range 60000 {
		x := anyView(draw, draw.IntN(6))
		place := anyPlace(draw, x)
		c, b := anyTelling(draw, x, place), anyBytes(draw, x, place)
		checkAny(t, x, place, c, b)
		count(met, x, place, c, b)
	}
	for _, what := range []string{
		"nobody hears", "takes", "leads", "leads no more", "another leads", "lost", "was the root, detected", "was the root, not detected", "root before and behind",
		"replies", "owes", "nothing", "a tcn", "a tcn by the root", "no tcn", "error 2", "error 3", "error 4", "error 5", "error 6", "error 8", "error 0",
	} {
		if met[what] < 300 {
			t.Errorf("%q was met %d times only: %v", what, met[what], met)
		}
	}
}

// count tells which cases of the chapter these are.
func count(met map[string]int, x tree.Tree, place int, c api.Bpdu, b []byte) {
	_, _, e := plainBytes(x, place, b)
	met[fmt.Sprintf("error %d", e)]++
	if !isPlace(x, place) || x.Ports[place].State == disabled {
		met["nobody hears"]++
		return
	}
	y, out := plainConfig(x, place, c)
	designated := plainDesignated(x, place)
	switch {
	case plainTakes(x, place, c):
		countTaken(met, x, y, place)
	case designated && len(out) > 0:
		met["replies"]++
	case designated:
		met["owes"]++
	default:
		met["nothing"]++
	}
	switch {
	case !designated:
		met["no tcn"]++
	case x.Root == x.Own:
		met["a tcn by the root"]++
	default:
		met["a tcn"]++
	}
}

// countTaken tells it of a view that heard what takes the place of what its port held.
func countTaken(met map[string]int, x, y tree.Tree, place int) {
	met["takes"]++
	switch place {
	case y.RootPort:
		met["leads"]++
	case x.RootPort:
		met["leads no more"]++
	default:
		met["another leads"]++
	}
	for i, p := range x.Ports {
		if (p.State == learning || p.State == forwarding) && y.Ports[i].State == blocking {
			met["lost"]++
			break
		}
	}
	switch {
	case x.Root == x.Own && y.Root == y.Own:
		met["root before and behind"]++
	case x.Root == x.Own && x.Detected:
		met["was the root, detected"]++
	case x.Root == x.Own:
		met["was the root, not detected"]++
	}
}

func TestOfViewsWithManyPorts(t *testing.T) {
	draw := rand.New(rand.NewPCG(15, 2))
	for range 30 {
		ports := 900 + draw.IntN(101)
		x, place := anyView(draw, ports), draw.IntN(ports)
		checkAny(t, x, place, anyTelling(draw, x, place), anyBytes(draw, x, place))
	}
}

// plainLater lets a second go by for a view, as far as this layer's calls can
// tell: Hold rests behind one, all else that runs is older.
func plainLater(x tree.Tree) tree.Tree {
	x = own(x)
	older(&x.Hello, &x.Tcn, &x.Told)
	for i := range x.Ports {
		p := &x.Ports[i]
		older(&p.Age, &p.Delay)
		p.Hold = rests
	}
	return x
}

func older(timers ...*api.Timer) {
	for _, timer := range timers {
		if timer.On {
			timer.Value = min(timer.Value+256, longest)
		}
	}
}

// TestLongRows lets one view hear this and that, one behind the other, seconds
// go by, ports go on, and what they hold be forgotten meanwhile.
func TestLongRows(t *testing.T) {
	for ports := range 5 {
		t.Run(fmt.Sprintf("%d ports", ports), func(t *testing.T) {
			draw := rand.New(rand.NewPCG(15, uint64(10+ports)))
			x := anyView(draw, ports)
			for n := range 8000 {
				place := anyPlace(draw, x)
				c, b := anyTelling(draw, x, place), anyBytes(draw, x, place)
				checkAny(t, x, place, c, b)
				switch draw.IntN(8) {
				case 0, 1:
					x, _ = heard.Config(x, place, c)
				case 2:
					x, _ = heard.Tcn(x, place)
				case 3, 4:
					x, _, _ = heard.Bytes(x, place, b)
				case 5:
					x = plainLater(x)
				default:
					x = meanwhile(draw, own(x), n)
				}
			}
		})
	}
}

// meanwhile does to a view what its bridge does by itself: a port goes on, or
// forgets what it held, and who is left alone leads from then on.
func meanwhile(draw *rand.Rand, x tree.Tree, n int) tree.Tree {
	if n%200 == 0 {
		return anyView(draw, len(x.Ports))
	}
	if len(x.Ports) == 0 {
		return x
	}
	p := &x.Ports[draw.IntN(len(x.Ports))]
	switch draw.IntN(5) {
	case 0:
		p.Held = rank.Vector{Root: x.Root, Cost: x.Cost, Bridge: x.Own, Port: p.Id}
		was := x.Root == x.Own
		x, _ = heard.Settle(x)
		if x.Root == x.Own && !was {
			x, _ = heard.Lead(x)
		}
	case 1:
		p.State = draw.IntN(5)
	default:
		if p.State == listening || p.State == learning {
			p.State++
		}
	}
	return x
}

// 15.4.

// worse tells whether a bridge knows a worse root than before, or is farther
// from the same one.
func worse(now, before tree.Tree) bool {
	return less([]uint64{uint64(before.Root), uint64(before.Cost)}, []uint64{uint64(now.Root), uint64(now.Cost)})
}

// bounded answers a view of ports whose costs are those of which chapter 13
// tells what holds, and that has settled.
func bounded(draw *rand.Rand, ports int) tree.Tree {
	x := anyView(draw, ports)
	for i := range x.Ports {
		p := &x.Ports[i]
		p.Cost, p.Held.Cost = pick(draw, p.Cost%65535+1, 1, 2, 65535), p.Held.Cost%(1<<31)
	}
	x, _ = plainSettle(x)
	return x
}

// checkKnows lets a view hear something, by each of the calls: none makes
// worse what it knows, and what is refused changes nothing. It answers the
// view that has heard.
func checkKnows(t *testing.T, draw *rand.Rand, x tree.Tree) tree.Tree {
	t.Helper()
	place := anyPlace(draw, x)
	c, b := anyTelling(draw, x, place), anyBytes(draw, x, place)
	c.Cost %= 1 << 31
	y, out, e := heard.Bytes(x, place, b)
	if worse(y, x) {
		t.Fatalf("behind Bytes(%d, %x) of\n%+v what is known is worse:\n%+v", place, b, x, y)
	}
	if e != api.OK && (!same(x, y) || len(out) != 0) {
		t.Fatalf("Bytes(%d, %x) of\n%+v answers %d and\n%+v, %x", place, b, x, e, y, out)
	}
	z, _ := heard.Tcn(x, place)
	if z.Root != x.Root || z.Cost != x.Cost || z.RootPort != x.RootPort {
		t.Fatalf("behind Tcn(%d) of\n%+v another root is known:\n%+v", place, x, z)
	}
	itsOwn := isPlace(x, place) && c.Bridge == x.Own && c.Port == x.Ports[place].Id
	if itsOwn {
		return y
	}
	z, _ = heard.Config(x, place, c)
	if worse(z, x) {
		t.Fatalf("behind Config(%d, %+v) of\n%+v what is known is worse:\n%+v", place, c, x, z)
	}
	return pick(draw, y, z)
}

func TestNeverWorse(t *testing.T) {
	draw := rand.New(rand.NewPCG(15, 3))
	nearer := 0
	for range 4000 {
		x := bounded(draw, draw.IntN(6))
		for range 25 {
			y := checkKnows(t, draw, x)
			if worse(x, y) {
				nearer++
			}
			x = y
			if z, _ := heard.Settle(x); worse(z, x) {
				t.Fatalf("behind Settle of\n%+v what is known is worse:\n%+v", x, z)
			}
			if draw.IntN(4) == 0 {
				x = plainLater(x)
			}
		}
	}
	if nearer < 1000 {
		t.Errorf("only %d times something better was heard", nearer)
	}
}

// TestNeverWorseAtTheEdges has one that leads, and one that doesn't, hear what
// is by as little as may be worse, better, or as good as each port holds.
func TestNeverWorseAtTheEdges(t *testing.T) {
	for _, x := range []tree.Tree{aloneView(4), ledView(4)} {
		for place := range 4 {
			v := x.Ports[place].Held
			for turn := range 81 {
				by := func(n int) uint64 { return uint64(turn/n%3) - 1 }
				b := plainPut(telling(v.Root+api.BridgeId(by(1)), min(v.Cost+uint32(by(3)), 1<<31-1), v.Bridge+api.BridgeId(by(9)), v.Port+api.PortId(by(27))))
				if y, _, _ := heard.Bytes(x, place, b); worse(y, x) {
					t.Fatalf("behind Bytes(%d, %x) of\n%+v what is known is worse:\n%+v", place, b, x, y)
				}
			}
		}
	}
}

// FuzzOfAny hands in any view at all of ports with unlike numbers, whatever
// it knows, and any bytes, and reads its answers off the chapter.
func FuzzOfAny(f *testing.F) {
	f.Add(uint64(1), 3, uint64(me), uint64(other), 0, 1, plainPut(telling(1, 2, 3, 4)))
	f.Add(uint64(2), 0, uint64(0), uint64(0), -1, 0, []byte(nil))
	f.Add(uint64(3), 1000, uint64(math.MaxUint64), uint64(1), math.MaxInt, math.MinInt, []byte{0, 0, 0, 0x80})
	f.Add(uint64(4), 4, uint64(5), uint64(5), -1, 2, plainPut(telling(5, 0, 5, 1)))
	f.Fuzz(func(t *testing.T, seed uint64, ports int, id, root uint64, leads, place int, b []byte) {
		draw := rand.New(rand.NewPCG(seed, 15))
		x := anyView(draw, min(max(ports, 0), 1000))
		x.Own, x.Root, x.RootPort = api.BridgeId(id), api.BridgeId(root), leads
		checkAny(t, x, place, anyTelling(draw, x, place), b)
		checkKnows(t, draw, bounded(draw, draw.IntN(6)))
	})
}
