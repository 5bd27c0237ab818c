package tree_test

import (
	"fmt"
	"math"
	"math/rand/v2"
	"sort"
	"testing"

	"treeline/api"
	"treeline/rank"
	"treeline/tree"
)

// A plain reading of the chapter, which asks no layer.

func plainDesignated(p api.Port, id api.BridgeId) bool {
	return p.Held.Bridge == id && p.Held.Port == p.Id
}

func plainMayLead(p api.Port, id api.BridgeId) bool {
	if plainDesignated(p, id) || p.State == disabled {
		return false
	}
	return p.Held.Root < id
}

// plainFar answers how far the root is by a port.
func plainFar(p api.Port) uint64 {
	return min(uint64(p.Held.Cost)+uint64(p.Cost), 1<<32-1)
}

// less tells whether the first numbers that are unlike are so that the first list's is less.
func less(a, b []uint64) bool {
	for i := range a {
		if a[i] != b[i] {
			return a[i] < b[i]
		}
	}
	return false
}

func plainWay(p api.Port) []uint64 {
	return []uint64{uint64(p.Held.Root), plainFar(p), uint64(p.Held.Bridge), uint64(p.Held.Port), uint64(p.Id)}
}

// plainSelect puts the ports that may lead in order: the first one does.
func plainSelect(x tree.Tree) tree.Tree {
	x = own(x)
	var may []int
	for i, p := range x.Ports {
		if plainMayLead(p, x.Own) {
			may = append(may, i)
		}
	}
	sort.Slice(may, func(i, j int) bool {
		return less(plainWay(x.Ports[may[i]]), plainWay(x.Ports[may[j]]))
	})
	if len(may) == 0 {
		x.RootPort, x.Root, x.Cost = -1, x.Own, 0
		return x
	}
	p := x.Ports[may[0]]
	x.RootPort, x.Root, x.Cost = may[0], p.Held.Root, uint32(plainFar(p))
	return x
}

func plainDesignate(x tree.Tree) tree.Tree {
	x = own(x)
	for i, p := range x.Ports {
		tells := []uint64{uint64(x.Root), uint64(x.Cost), uint64(x.Own), uint64(p.Id)}
		holds := []uint64{uint64(p.Held.Root), uint64(p.Held.Cost), uint64(p.Held.Bridge), uint64(p.Held.Port)}
		if plainDesignated(p, x.Own) || p.Held.Root != x.Root || !less(holds, tells) {
			x.Ports[i].Held = rank.Vector{Root: x.Root, Cost: x.Cost, Bridge: x.Own, Port: p.Id}
		}
	}
	return x
}

func plainUpdate(x tree.Tree) tree.Tree {
	return plainDesignate(plainSelect(x))
}

func plainStates(x tree.Tree) (tree.Tree, bool) {
	x = own(x)
	lost := false
	for i, p := range x.Ports {
		var was bool
		x.Ports[i], was = plainState(p, i == x.RootPort, plainDesignated(p, x.Own))
		if was {
			lost = true
		}
	}
	return x, lost
}

// Views drawn at random, always the same ones. Most numbers are few, so that
// they are often alike; some are any at all.

func pick[N any](draw *rand.Rand, some ...N) N {
	return some[draw.IntN(len(some))]
}

func anyBridge(draw *rand.Rand) api.BridgeId {
	switch draw.IntN(8) {
	case 0:
		return api.BridgeId(draw.Uint64())
	case 1:
		return pick[api.BridgeId](draw, 0, 1<<48+2, 1<<63, math.MaxUint64)
	}
	return api.BridgeId(1 + draw.IntN(4))
}

func anyCost(draw *rand.Rand) uint32 {
	switch draw.IntN(6) {
	case 0:
		return draw.Uint32()
	case 1:
		return pick[uint32](draw, 1<<31-1, 1<<31, math.MaxUint32-19, math.MaxUint32-1, math.MaxUint32)
	}
	return pick[uint32](draw, 0, 1, 2, 3, 4, 19)
}

func anyTimer(draw *rand.Rand) api.Timer {
	if draw.IntN(2) == 0 {
		return rests
	}
	return runs(pick(draw, 0, 256, 256*draw.IntN(60), draw.IntN(longest+1), longest))
}

func anyState(draw *rand.Rand) int {
	if draw.IntN(20) == 0 {
		return pick(draw, noStates...)
	}
	return draw.IntN(5)
}

// anyHeld answers what a port of a bridge holds: its own telling, another
// port's of its bridge, another bridge's, anything.
func anyHeld(draw *rand.Rand, id api.BridgeId, number api.PortId) rank.Vector {
	v := rank.Vector{Root: anyBridge(draw), Cost: anyCost(draw), Bridge: anyBridge(draw), Port: api.PortId(draw.IntN(6))}
	if draw.IntN(3) == 0 {
		v.Bridge = id
	}
	if draw.IntN(3) == 0 {
		v.Port = number
	}
	return v
}

// anyView answers a view of so many ports, whose numbers are unlike.
func anyView(draw *rand.Rand, ports int) tree.Tree {
	x := tree.Tree{
		Own: anyBridge(draw), Root: anyBridge(draw), Cost: anyCost(draw), RootPort: draw.IntN(ports+2) - 1,
		Now:      tree.Times{MaxAge: draw.IntN(65536), Hello: draw.IntN(65536), Delay: draw.IntN(65536)},
		Mine:     tree.Times{MaxAge: draw.IntN(65536), Hello: draw.IntN(65536), Delay: draw.IntN(65536)},
		Detected: draw.IntN(2) == 0, Change: draw.IntN(2) == 0,
		Hello: anyTimer(draw), Tcn: anyTimer(draw), Told: anyTimer(draw),
	}
	base := draw.IntN(math.MaxUint16 + 1)
	for i, j := range draw.Perm(ports) {
		number := api.PortId(j + 1)
		if base%3 == 0 {
			number = api.PortId(base + 257*j)
		}
		x.Ports = append(x.Ports, api.Port{
			Id: number, State: anyState(draw), Cost: anyCost(draw),
			Ack: draw.IntN(2) == 0, Pending: draw.IntN(2) == 0,
			Age: anyTimer(draw), Delay: anyTimer(draw), Hold: anyTimer(draw),
		})
		x.Ports[i].Held = anyHeld(draw, x.Own, number)
		if i > 0 && draw.IntN(4) == 0 {
			alike(&x.Ports[i], x.Ports[i-1])
		}
	}
	return x
}

// alike lets a port lead as well as another one, but for their numbers: what
// it holds is by one nearer where it costs one more.
func alike(p *api.Port, other api.Port) {
	p.Held, p.Cost = other.Held, other.Cost
	if p.Held.Cost > 0 && p.Cost < math.MaxUint32 {
		p.Held.Cost, p.Cost = p.Held.Cost-1, p.Cost+1
	}
}

// checkAll holds every call against the plain reading.
func checkAll(t *testing.T, x tree.Tree) {
	t.Helper()
	if got, want := tree.IsRoot(x), x.Own == x.Root; got != want {
		t.Fatalf("IsRoot(%+v) = %t", x, got)
	}
	if got, want := tree.Telling(x), (rank.Vector{Root: x.Root, Cost: x.Cost, Bridge: x.Own}); got != want {
		t.Fatalf("Telling(%+v) = %+v, want %+v", x, got, want)
	}
	checkView(t, "Copy", tree.Copy, x, own(x))
	checkView(t, "Select", tree.Select, x, plainSelect(x))
	checkView(t, "Designate", tree.Designate, x, plainDesignate(x))
	checkView(t, "Update", tree.Update, x, plainUpdate(x))
	want, lost := plainStates(x)
	checkStates(t, x, want, lost)
	checkSame(t, x, want, same(x, want))
}

func TestOfAnyView(t *testing.T) {
	draw := rand.New(rand.NewPCG(13, 2))
	met := map[string]int{}
	for range 40000 {
		x := anyView(draw, draw.IntN(6))
		checkAll(t, x)
		count(met, x)
	}
	for _, what := range []string{"none", "one", "several", "by the number", "cut", "kept", "designated", "lost"} {
		if met[what] < 100 {
			t.Errorf("%q was met %d times only: %v", what, met[what], met)
		}
	}
}

// count tells which cases of the chapter a view is one of.
func count(met map[string]int, x tree.Tree) {
	may := 0
	for _, p := range x.Ports {
		if plainMayLead(p, x.Own) {
			may++
		}
	}
	met[[]string{"none", "one", "several"}[min(may, 2)]]++
	y := plainUpdate(x)
	for i, p := range x.Ports {
		if y.RootPort >= 0 && i != y.RootPort && plainMayLead(p, x.Own) && !less(plainWay(x.Ports[y.RootPort])[:4], plainWay(p)[:4]) {
			met["by the number"]++
		}
		if i == y.RootPort && y.Cost == math.MaxUint32 {
			met["cut"]++
		}
		if y.Ports[i].Held == p.Held {
			met["kept"]++
		} else {
			met["designated"]++
		}
	}
	if _, lost := plainStates(y); lost {
		met["lost"]++
	}
}

func TestOfViewsWithManyPorts(t *testing.T) {
	draw := rand.New(rand.NewPCG(13, 3))
	for range 40 {
		checkAll(t, anyView(draw, 900+draw.IntN(101)))
	}
}

// TestLongRows lets one view go through all that a bridge does with it, one
// behind the other, and hold and do this and that meanwhile.
func TestLongRows(t *testing.T) {
	for ports := range 5 {
		t.Run(fmt.Sprintf("%d ports", ports), func(t *testing.T) {
			draw := rand.New(rand.NewPCG(13, uint64(10+ports)))
			x := anyView(draw, ports)
			for range 8000 {
				checkAll(t, x)
				switch draw.IntN(6) {
				case 0:
					x = tree.Select(x)
				case 1:
					x = tree.Designate(x)
				case 2:
					x = tree.Update(x)
				case 3:
					x, _ = tree.States(x)
				case 4:
					x = meanwhile(draw, tree.Copy(x))
				default:
					x = anyView(draw, ports)
				}
			}
		})
	}
}

// meanwhile does to a port of a view what its bridge does by itself.
func meanwhile(draw *rand.Rand, x tree.Tree) tree.Tree {
	if len(x.Ports) == 0 {
		return x
	}
	p := &x.Ports[draw.IntN(len(x.Ports))]
	switch draw.IntN(4) {
	case 0:
		p.Held = anyHeld(draw, x.Own, p.Id)
	case 1:
		p.State = anyState(draw)
	case 2:
		p.Ack, p.Pending = true, true
	default:
		p.Age, p.Delay = anyTimer(draw), anyTimer(draw)
	}
	return x
}

// 13.4.

// checkHolds asks for what holds behind an Update, and behind States then.
func checkHolds(t *testing.T, x tree.Tree) {
	t.Helper()
	u := tree.Update(x)
	if leads := u.RootPort >= 0 && u.RootPort < len(u.Ports); leads == tree.IsRoot(u) || !leads && u.RootPort != -1 {
		t.Fatalf("Update of\n%+v: IsRoot %t, and RootPort %d", x, tree.IsRoot(u), u.RootPort)
	}
	for i, p := range u.Ports {
		if i == u.RootPort && plainDesignated(p, u.Own) {
			t.Fatalf("Update of\n%+v: the port to the root is designated:\n%+v", x, u)
		}
	}
	s, _ := tree.States(u)
	if s.RootPort != u.RootPort || s.Own != u.Own {
		t.Fatalf("States of\n%+v leads otherwise:\n%+v", u, s)
	}
	for i, p := range s.Ports {
		if i == s.RootPort || plainDesignated(p, s.Own) {
			continue
		}
		if p.State != disabled && p.State != blocking {
			t.Fatalf("States of\n%+v: port %d is on its way to forwarding:\n%+v", u, i, s)
		}
	}
}

// bounded cuts a view's costs to those of which the chapter tells what holds.
func bounded(draw *rand.Rand, x tree.Tree) tree.Tree {
	for i := range x.Ports {
		p := &x.Ports[i]
		p.Cost, p.Held.Cost = p.Cost%65535+1, p.Held.Cost%(1<<31)
		if draw.IntN(4) == 0 {
			p.Cost = pick[uint32](draw, 1, 65535)
		}
		if draw.IntN(4) == 0 {
			p.Held.Cost = pick[uint32](draw, 0, 1<<31-1, 1<<31-2)
		}
	}
	return x
}

func TestWhatHolds(t *testing.T) {
	draw := rand.New(rand.NewPCG(13, 4))
	roots, others := 0, 0
	for range 100000 {
		x := bounded(draw, anyView(draw, draw.IntN(6)))
		checkHolds(t, x)
		if plainUpdate(x).RootPort < 0 {
			roots++
		} else {
			others++
		}
	}
	if roots < 1000 || others < 1000 {
		t.Errorf("%d took themselves for the root, %d didn't", roots, others)
	}
	for range 20 {
		checkHolds(t, bounded(draw, anyView(draw, 1000)))
	}
}

// TestWhatHoldsAtTheEdges has ports at the edges of their costs, which hold
// what comes as near to being worse than the bridge's telling as may be.
func TestWhatHoldsAtTheEdges(t *testing.T) {
	for _, cost := range []uint32{1, 2, 65534, 65535} {
		for _, held := range []uint32{0, 1, 1<<31 - 2, 1<<31 - 1} {
			for _, bridge := range []api.BridgeId{0, me - 1, me, me + 1, math.MaxUint64} {
				for _, number := range []api.PortId{0, 1, 0x8001, 0x8002, math.MaxUint16} {
					for _, root := range []api.BridgeId{0, me - 1, me, me + 1, math.MaxUint64} {
						for _, state := range anyStates() {
							p := api.Port{Id: 0x8001, State: state, Cost: cost, Held: rank.Vector{Root: root, Cost: held, Bridge: bridge, Port: number}}
							checkHolds(t, seen(p))
							q := fullPort(1)
							q.State, q.Held = forwarding, p.Held
							checkHolds(t, seen(p, q))
							checkHolds(t, seen(q, p))
						}
					}
				}
			}
		}
	}
}

func TestWhatHoldsOfWhoBegins(t *testing.T) {
	for ports := range api.MaxPorts + 1 {
		x := tree.New(good(ports))
		checkHolds(t, x)
		s, lost := tree.States(tree.Update(x))
		if lost || s.RootPort != -1 {
			t.Errorf("who begins: %+v, %t", s, lost)
		}
		for i, p := range s.Ports {
			if good(ports).Ports[i].On != (p.State == listening) || (p.State == disabled) != (p.State != listening) {
				t.Errorf("port %d of who begins: %+v", i, p)
			}
		}
	}
}

// FuzzOfAny hands in any view at all of ports with unlike numbers, whatever
// it knows, and reads its answers off the chapter.
func FuzzOfAny(f *testing.F) {
	f.Add(uint64(1), 3, uint64(500), uint64(400), 0)
	f.Add(uint64(2), 0, uint64(0), uint64(0), -1)
	f.Add(uint64(3), 1000, uint64(math.MaxUint64), uint64(1), math.MaxInt)
	f.Fuzz(func(t *testing.T, seed uint64, ports int, id, root uint64, place int) {
		draw := rand.New(rand.NewPCG(seed, 13))
		x := anyView(draw, min(max(ports, 0), 1000))
		x.Own, x.Root, x.RootPort = api.BridgeId(id), api.BridgeId(root), place
		checkAll(t, x)
		checkHolds(t, bounded(draw, x))
	})
}
