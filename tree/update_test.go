package tree_test

import (
	"math"
	"testing"

	"treeline/api"
	"treeline/rank"
	"treeline/tree"
)

// me is the number of the bridge whose views are looked at.
const me api.BridgeId = 500

// near answers a port that may lead to the root 400, 29 far from it.
func near(id api.PortId) api.Port {
	return api.Port{Id: id, State: blocking, Cost: 19, Held: rank.Vector{Root: 400, Cost: 10, Bridge: 600, Port: 7}}
}

// seen answers a view of those ports of a bridge that thinks otherwise, and
// whose other fields aren't 0.
func seen(ports ...api.Port) tree.Tree {
	x := fullView(0)
	x.Own, x.Root, x.Cost, x.RootPort = me, 77, 78, 79
	x.Ports = ports
	return x
}

// checkSelect wants the place of the port to the root, the root, and how far it is.
func checkSelect(t *testing.T, x tree.Tree, place int, root api.BridgeId, cost uint32) {
	t.Helper()
	want := own(x)
	want.RootPort, want.Root, want.Cost = place, root, cost
	checkView(t, "Select", tree.Select, x, want)
}

func checkNone(t *testing.T, x tree.Tree) {
	t.Helper()
	checkSelect(t, x, -1, x.Own, 0)
}

// 13.2: Select.

func TestSelectWithoutPorts(t *testing.T) {
	checkNone(t, seen())
	checkNone(t, tree.Tree{})
	for _, id := range []api.BridgeId{0, 1, math.MaxUint64} {
		checkNone(t, tree.Tree{Own: id, Root: 3, Cost: 4, RootPort: 0})
	}
}

func TestSelect(t *testing.T) {
	checkSelect(t, seen(near(1)), 0, 400, 29)
	checkSelect(t, seen(api.Port{Id: 0x8001, State: forwarding, Cost: 100, Held: rank.Vector{Root: 3, Cost: 26, Bridge: 5, Port: 1}}), 0, 3, 126)
}

// withChange answers the port near, changed in one way.
func withChange(change func(*api.Port)) api.Port {
	p := near(0x8001)
	change(&p)
	return p
}

// TestSelectWhoMayLead changes a port that may lead in one way alone: if it
// may not any more another one leads, or none. That other one is far worse.
func TestSelectWhoMayLead(t *testing.T) {
	other := near(0x8002)
	other.Held.Root, other.Held.Cost = 499, 1000
	for _, c := range []struct {
		name   string
		change func(*api.Port)
		may    bool
	}{
		{"as it is", func(*api.Port) {}, true},
		{"it is designated", func(p *api.Port) { p.Held.Bridge, p.Held.Port = me, p.Id }, false},
		{"it holds another port's telling of its bridge", func(p *api.Port) { p.Held.Bridge = me }, true},
		{"it holds its number of another bridge", func(p *api.Port) { p.Held.Port = p.Id }, true},
		{"it is Disabled", func(p *api.Port) { p.State = disabled }, false},
		{"it listens", func(p *api.Port) { p.State = listening }, true},
		{"it learns", func(p *api.Port) { p.State = learning }, true},
		{"it forwards", func(p *api.Port) { p.State = forwarding }, true},
		{"its root is Own", func(p *api.Port) { p.Held.Root = me }, false},
		{"its root is greater by one", func(p *api.Port) { p.Held.Root = me + 1 }, false},
		{"its root is the greatest", func(p *api.Port) { p.Held.Root = math.MaxUint64 }, false},
		{"its root is greater by its priority", func(p *api.Port) { p.Held.Root = 1<<48 + 400 }, false},
		{"its root is greater by its highest bit", func(p *api.Port) { p.Held.Root = 1 << 63 }, false},
		{"its root is less by one", func(p *api.Port) { p.Held.Root = me - 1 }, true},
		{"its root is 0", func(p *api.Port) { p.Held.Root = 0 }, true},
		{"it tells its root itself", func(p *api.Port) { p.Held.Bridge = p.Held.Root }, true},
		{"it owes", func(p *api.Port) { p.Ack, p.Pending = true, true }, true},
		{"its timers run", func(p *api.Port) { p.Age, p.Delay, p.Hold = runs(longest), runs(1), runs(2) }, true},
		{"its number is 0", func(p *api.Port) { p.Id = 0 }, true},
		{"it is far", func(p *api.Port) { p.Held.Cost = math.MaxUint32 }, true},
	} {
		p := withChange(c.change)
		t.Run(c.name, func(t *testing.T) {
			if !c.may {
				checkNone(t, seen(p))
				checkSelect(t, seen(p, other), 1, 499, 1019)
				checkSelect(t, seen(other, p), 0, 499, 1019)
				return
			}
			root, far := p.Held.Root, uint32(plainFar(p))
			checkSelect(t, seen(p), 0, root, far)
			checkSelect(t, seen(p, other), 0, root, far)
			checkSelect(t, seen(other, p), 1, root, far)
		})
	}
}

func TestSelectInEachState(t *testing.T) {
	for _, state := range anyStates() {
		p := near(1)
		p.State = state
		if state == disabled {
			checkNone(t, seen(p))
		} else {
			checkSelect(t, seen(p), 0, 400, 29)
		}
	}
}

// TestSelectOfNone has one port for each reason for which it may not lead.
func TestSelectOfNone(t *testing.T) {
	checkNone(t, seen(
		withChange(func(p *api.Port) { p.Held.Bridge, p.Held.Port = me, p.Id }),
		withChange(func(p *api.Port) { p.Id, p.State = 2, disabled }),
		withChange(func(p *api.Port) { p.Id, p.Held.Root = 3, me }),
		withChange(func(p *api.Port) { p.Id, p.Held.Root = 4, me+1 }),
	))
}

// TestSelectByOwn asks several bridges that hold the same, told apart by their priority too.
func TestSelectByOwn(t *testing.T) {
	for _, root := range []api.BridgeId{0, 1, 255, 1<<32 - 1, 1 << 32, 1<<48 - 1, 1 << 48, 1<<63 - 1, 1 << 63, math.MaxUint64 - 1} {
		p := near(1)
		p.Held.Root = root
		x := seen(p)
		x.Own = root
		checkNone(t, x)
		x.Own = root + 1
		checkSelect(t, x, 0, root, 29)
		if root > 0 {
			x.Own = root - 1
			checkNone(t, x)
		}
		x.Own = math.MaxUint64
		checkSelect(t, x, 0, root, 29)
		x.Own = 0
		checkNone(t, x)
	}
}

// leads are ports that lead to the root, each better than all behind it: by
// the root, by how far it is, by who tells it, by which port, by the number.
func leads() []api.Port {
	var out []api.Port
	add := func(id api.PortId, cost uint32, held rank.Vector) {
		out = append(out, api.Port{Id: id, State: blocking, Cost: cost, Held: held})
	}
	add(0x80ff, 65535, rank.Vector{Root: 1, Cost: math.MaxUint32 - 1, Bridge: 999, Port: 99})
	add(0x80fe, 65535, rank.Vector{Root: 2, Cost: math.MaxUint32, Bridge: 3, Port: 99})
	add(0x80fd, 1, rank.Vector{Root: 2, Cost: math.MaxUint32 - 1, Bridge: 4, Port: 1})
	add(0x80fc, 200, rank.Vector{Root: 3, Cost: 0, Bridge: 999, Port: 99})
	add(0x80fb, 1, rank.Vector{Root: 3, Cost: 200, Bridge: 998, Port: 99})
	add(0x80fa, 2, rank.Vector{Root: 3, Cost: 199, Bridge: 999, Port: 98})
	add(0x80f0, 3, rank.Vector{Root: 3, Cost: 198, Bridge: 999, Port: 99})
	add(0x80f1, 201, rank.Vector{Root: 3, Cost: 0, Bridge: 999, Port: 99})
	add(0x80f2, 1, rank.Vector{Root: 3, Cost: 200, Bridge: 999, Port: 99})
	add(0x80f3, 2, rank.Vector{Root: 3, Cost: 199, Bridge: 999, Port: 99})
	add(0x00f4, 19, rank.Vector{Root: 499, Cost: 0, Bridge: 3, Port: 1})
	add(0x0001, 20, rank.Vector{Root: 499, Cost: 0, Bridge: 2, Port: 0})
	return out
}

// TestSelectTheBetterOfTwo has two ports each, both ways round.
func TestSelectTheBetterOfTwo(t *testing.T) {
	for _, c := range []struct {
		name string
		p, q api.Port // p leads better
	}{
		{"by the root", api.Port{Id: 2, Cost: 9, Held: rank.Vector{Root: 3, Cost: 9, Bridge: 9, Port: 9}}, api.Port{Id: 1, Cost: 1, Held: rank.Vector{Root: 4, Cost: 1, Bridge: 1, Port: 1}}},
		{"by the cost that is held", api.Port{Id: 2, Cost: 5, Held: rank.Vector{Root: 3, Cost: 4, Bridge: 9, Port: 9}}, api.Port{Id: 1, Cost: 5, Held: rank.Vector{Root: 3, Cost: 5, Bridge: 1, Port: 1}}},
		{"by the port's cost", api.Port{Id: 2, Cost: 5, Held: rank.Vector{Root: 3, Cost: 4, Bridge: 9, Port: 9}}, api.Port{Id: 1, Cost: 6, Held: rank.Vector{Root: 3, Cost: 4, Bridge: 1, Port: 1}}},
		{"by the sum, which the port's cost turns", api.Port{Id: 2, Cost: 1, Held: rank.Vector{Root: 3, Cost: 20, Bridge: 9, Port: 9}}, api.Port{Id: 1, Cost: 19, Held: rank.Vector{Root: 3, Cost: 3, Bridge: 1, Port: 1}}},
		{"by the sum, which the held cost turns", api.Port{Id: 2, Cost: 19, Held: rank.Vector{Root: 3, Cost: 3, Bridge: 9, Port: 9}}, api.Port{Id: 1, Cost: 1, Held: rank.Vector{Root: 3, Cost: 22, Bridge: 1, Port: 1}}},
		{"by the sum, far away", api.Port{Id: 2, Cost: 1, Held: rank.Vector{Root: 3, Cost: math.MaxUint32 - 2, Bridge: 9, Port: 9}}, api.Port{Id: 1, Cost: 65535, Held: rank.Vector{Root: 3, Cost: math.MaxUint32 - 2, Bridge: 1, Port: 1}}},
		{"by who tells, of alike sums", api.Port{Id: 2, Cost: 2, Held: rank.Vector{Root: 3, Cost: 20, Bridge: 5, Port: 9}}, api.Port{Id: 1, Cost: 20, Held: rank.Vector{Root: 3, Cost: 2, Bridge: 6, Port: 1}}},
		{"by who tells, of sums that are cut", api.Port{Id: 2, Cost: 65535, Held: rank.Vector{Root: 3, Cost: math.MaxUint32, Bridge: 5, Port: 9}}, api.Port{Id: 1, Cost: 1, Held: rank.Vector{Root: 3, Cost: math.MaxUint32 - 1, Bridge: 6, Port: 1}}},
		{"by whose port tells", api.Port{Id: 2, Cost: 20, Held: rank.Vector{Root: 3, Cost: 2, Bridge: 5, Port: 8}}, api.Port{Id: 1, Cost: 2, Held: rank.Vector{Root: 3, Cost: 20, Bridge: 5, Port: 9}}},
		{"by its number alone", api.Port{Id: 1, Cost: 5, Held: rank.Vector{Root: 3, Cost: 4, Bridge: 5, Port: 6}}, api.Port{Id: 2, Cost: 5, Held: rank.Vector{Root: 3, Cost: 4, Bridge: 5, Port: 6}}},
		{"by its number, of alike sums", api.Port{Id: 1, Cost: 6, Held: rank.Vector{Root: 3, Cost: 3, Bridge: 5, Port: 6}}, api.Port{Id: 2, Cost: 5, Held: rank.Vector{Root: 3, Cost: 4, Bridge: 5, Port: 6}}},
		{"by its number, whose priority counts", api.Port{Id: 0x0102, Cost: 5, Held: rank.Vector{Root: 3, Cost: 4, Bridge: 5, Port: 6}}, api.Port{Id: 0x0201, Cost: 5, Held: rank.Vector{Root: 3, Cost: 4, Bridge: 5, Port: 6}}},
		{"by its number, that isn't signed", api.Port{Id: 0x7fff, Cost: 5, Held: rank.Vector{Root: 3, Cost: 4, Bridge: 5, Port: 6}}, api.Port{Id: 0x8000, Cost: 5, Held: rank.Vector{Root: 3, Cost: 4, Bridge: 5, Port: 6}}},
	} {
		c.p.State, c.q.State = forwarding, blocking
		root, far := c.p.Held.Root, uint32(plainFar(c.p))
		t.Run(c.name, func(t *testing.T) {
			checkSelect(t, seen(c.p, c.q), 0, root, far)
			checkSelect(t, seen(c.q, c.p), 1, root, far)
			c.p.State, c.q.State = blocking, forwarding
			checkSelect(t, seen(c.p, c.q), 0, root, far)
		})
	}
}

// TestSelectOfMany takes each three of the ports of leads, in each order.
func TestSelectOfMany(t *testing.T) {
	all := leads()
	for a := range all {
		for b := range all {
			for c := range all {
				if a == b || b == c || a == c {
					continue
				}
				first := min(a, b, c)
				place := 0
				switch first {
				case b:
					place = 1
				case c:
					place = 2
				}
				checkSelect(t, seen(all[a], all[b], all[c]), place, all[first].Held.Root, uint32(plainFar(all[first])))
			}
		}
	}
}

// TestSelectOfAThousand lets the best one stand at each place.
func TestSelectOfAThousand(t *testing.T) {
	x := seen()
	for i := range 1000 {
		x.Ports = append(x.Ports, near(api.PortId(i+2)))
	}
	for place := range x.Ports {
		had := x.Ports[place]
		x.Ports[place].Id = 1
		want := own(x)
		want.RootPort, want.Root, want.Cost = place, 400, 29
		if got := tree.Select(x); !same(got, want) {
			t.Fatalf("Select leads by port %d, want %d", got.RootPort, place)
		}
		x.Ports[place] = had
	}
}

// TestSelectHowFar lets the sum come just to the field's greatest number,
// short of it and beyond it.
func TestSelectHowFar(t *testing.T) {
	for _, c := range []struct{ held, cost, want uint32 }{
		{0, 0, 0}, {0, 1, 1}, {10, 19, 29}, {0, 65535, 65535}, {1<<31 - 1, 65535, 1<<31 + 65534},
		{math.MaxUint32 - 2, 1, math.MaxUint32 - 1}, {math.MaxUint32 - 1, 1, math.MaxUint32}, {math.MaxUint32, 0, math.MaxUint32},
		{math.MaxUint32, 1, math.MaxUint32}, {math.MaxUint32 - 1, 2, math.MaxUint32}, {math.MaxUint32 - 65535, 65535, math.MaxUint32},
		{math.MaxUint32 - 65534, 65535, math.MaxUint32}, {math.MaxUint32 - 65536, 65535, math.MaxUint32 - 1},
		{math.MaxUint32, math.MaxUint32, math.MaxUint32}, {1 << 31, 1 << 31, math.MaxUint32}, {1 << 31, 1<<31 - 1, math.MaxUint32},
		{math.MaxUint32, 65535, math.MaxUint32},
	} {
		p := near(1)
		p.Held.Cost, p.Cost = c.held, c.cost
		checkSelect(t, seen(p), 0, 400, c.want)
	}
}

// TestSelectForgets hands in views that told another root, port and cost before.
func TestSelectForgets(t *testing.T) {
	for _, place := range append([]int{0, 1, 2}, noPlaces...) {
		for _, root := range []api.BridgeId{0, 1, 400, me, math.MaxUint64} {
			for _, cost := range []uint32{0, 29, math.MaxUint32} {
				x := seen(fullPort(0), near(2), fullPort(1))
				x.Ports[0].State, x.Ports[2].State = disabled, disabled
				x.RootPort, x.Root, x.Cost = place, root, cost
				checkSelect(t, x, 1, 400, 29)
				x.Ports[1].State = disabled
				checkNone(t, x)
			}
		}
	}
}

// 13.2: Designate.

// knows answers a view that knows the root 400, 50 far, by no port it has.
func knows(ports ...api.Port) tree.Tree {
	x := seen(ports...)
	x.Root, x.Cost, x.RootPort = 400, 50, -1
	return x
}

// checkDesignate wants the ports at those places to become what the view tells.
func checkDesignate(t *testing.T, x tree.Tree, become ...int) {
	t.Helper()
	want := own(x)
	for _, i := range become {
		want.Ports[i].Held = rank.Vector{Root: x.Root, Cost: x.Cost, Bridge: x.Own, Port: x.Ports[i].Id}
	}
	checkView(t, "Designate", tree.Designate, x, want)
}

// holdings are what the port 0x8005 of a bridge that knows the root 400, 50
// far, may hold, and whether it becomes what the view tells.
func holdings() []holding {
	const id = 0x8005
	return []holding{
		{"it is designated, and tells the same", rank.Vector{Root: 400, Cost: 50, Bridge: me, Port: id}, true},
		{"it is designated, of another root and cost", rank.Vector{Root: 3, Cost: 7, Bridge: me, Port: id}, true},
		{"it is designated, of a better cost", rank.Vector{Root: 400, Cost: 49, Bridge: me, Port: id}, true},
		{"it is designated, of the best", rank.Vector{Root: 0, Cost: 0, Bridge: me, Port: id}, true},
		{"it is designated, of a worse cost", rank.Vector{Root: 400, Cost: 51, Bridge: me, Port: id}, true},
		{"its root is greater by one", rank.Vector{Root: 401, Cost: 1, Bridge: 1, Port: 1}, true},
		{"its root is less by one", rank.Vector{Root: 399, Cost: 1, Bridge: 1, Port: 1}, true},
		{"its root is 0", rank.Vector{Root: 0, Cost: 0, Bridge: 0, Port: 0}, true},
		{"its root is the greatest", rank.Vector{Root: math.MaxUint64, Cost: 0, Bridge: 0, Port: 0}, true},
		{"its root has another priority", rank.Vector{Root: 1<<48 + 400, Cost: 1, Bridge: 1, Port: 1}, true},
		{"its cost is greater by one", rank.Vector{Root: 400, Cost: 51, Bridge: 1, Port: 1}, true},
		{"its cost is the greatest", rank.Vector{Root: 400, Cost: math.MaxUint32, Bridge: 0, Port: 0}, true},
		{"its cost is less by one", rank.Vector{Root: 400, Cost: 49, Bridge: 9999, Port: 0xffff}, false},
		{"its cost is 0", rank.Vector{Root: 400, Cost: 0, Bridge: 400, Port: 1}, false},
		{"its cost is less, its own port's cost isn't added", rank.Vector{Root: 400, Cost: 40, Bridge: 600, Port: 1}, false},
		{"who tells is greater by one", rank.Vector{Root: 400, Cost: 50, Bridge: me + 1, Port: 1}, true},
		{"who tells is the greatest", rank.Vector{Root: 400, Cost: 50, Bridge: math.MaxUint64, Port: 0}, true},
		{"who tells is less by one", rank.Vector{Root: 400, Cost: 50, Bridge: me - 1, Port: 0xffff}, false},
		{"who tells is 0", rank.Vector{Root: 400, Cost: 50, Bridge: 0, Port: id}, false},
		{"who tells is less, and the port is its own number", rank.Vector{Root: 400, Cost: 50, Bridge: me - 1, Port: id}, false},
		{"an own port tells, greater by one", rank.Vector{Root: 400, Cost: 50, Bridge: me, Port: id + 1}, true},
		{"an own port tells, the greatest", rank.Vector{Root: 400, Cost: 50, Bridge: me, Port: 0xffff}, true},
		{"an own port tells, less by one", rank.Vector{Root: 400, Cost: 50, Bridge: me, Port: id - 1}, false},
		{"an own port tells, 1", rank.Vector{Root: 400, Cost: 50, Bridge: me, Port: 1}, false},
		{"an own port tells, 0", rank.Vector{Root: 400, Cost: 50, Bridge: me, Port: 0}, false},
		{"an own port tells a better cost", rank.Vector{Root: 400, Cost: 49, Bridge: me, Port: id + 1}, false},
	}
}

type holding struct {
	name   string
	held   rank.Vector
	become bool
}

// TestDesignate looks at each holding in each state, beside other ports, and
// with whatever else a port has: all of that stays.
func TestDesignate(t *testing.T) {
	first, last := fullPort(0), fullPort(7)
	first.Held = rank.Vector{Root: 400, Cost: 1, Bridge: 2, Port: 3}
	last.Held = rank.Vector{Root: 401, Cost: 1, Bridge: 2, Port: 3}
	for _, c := range holdings() {
		t.Run(c.name, func(t *testing.T) {
			for _, state := range anyStates() {
				for _, p := range []api.Port{fullPort(4), {Id: 0x8005}, {Id: 0x8005, Cost: math.MaxUint32, Ack: true, Age: runs(longest)}, {Id: 0x8005, Cost: 1, Pending: true, Delay: runs(0), Hold: runs(256)}} {
					p.State, p.Held = state, c.held
					if c.become {
						checkDesignate(t, knows(p), 0)
						checkDesignate(t, knows(first, p, last), 1, 2)
					} else {
						checkDesignate(t, knows(p))
						checkDesignate(t, knows(last, p, first), 0)
					}
				}
			}
		})
	}
}

// TestDesignateMakesNoException has the port to the root hold each holding too.
func TestDesignateMakesNoException(t *testing.T) {
	for _, c := range holdings() {
		p := fullPort(4)
		p.Held = c.held
		for _, place := range []int{0, 1, -1, math.MinInt, math.MaxInt} {
			x := knows(p)
			x.RootPort = place
			if c.become {
				checkDesignate(t, x, 0)
			} else {
				checkDesignate(t, x)
			}
		}
	}
}

// TestDesignateOfTheRoot has a bridge that takes itself for the root: all
// ports are designated that don't hold as much themselves.
func TestDesignateOfTheRoot(t *testing.T) {
	x := seen(fullPort(0), fullPort(1), fullPort(2), fullPort(3))
	x.Root, x.Cost, x.RootPort = me, 0, -1
	x.Ports[1].Held = rank.Vector{Root: me, Cost: 0, Bridge: me, Port: 1}
	x.Ports[2].Held = rank.Vector{Root: me, Cost: 0, Bridge: me - 1, Port: 1}
	x.Ports[3].Held = rank.Vector{Root: me, Cost: 1, Bridge: me - 1, Port: 1}
	checkDesignate(t, x, 0, 3)
	checkDesignate(t, tree.Tree{})
	checkDesignate(t, seen())
}

// TestDesignateAtEachPlace has a thousand ports, each other one of which becomes designated.
func TestDesignateAtEachPlace(t *testing.T) {
	x := knows()
	var become []int
	for i := range 1000 {
		p := fullPort(i)
		p.Held.Root, p.Held.Cost = 400, 49
		if i%2 == 0 {
			p.Held.Cost = 51
			become = append(become, i)
		}
		x.Ports = append(x.Ports, p)
	}
	checkDesignate(t, x, become...)
}

// 13.2: Update.

func TestUpdate(t *testing.T) {
	x := seen(fullPort(0), near(0x8002), fullPort(2), fullPort(3))
	x.Ports[0].Held = rank.Vector{Root: 400, Cost: 28, Bridge: 9999, Port: 9} // nearer than the bridge: stays
	x.Ports[2].Held = rank.Vector{Root: 400, Cost: 29, Bridge: 501, Port: 1}  // as far, told by a greater one
	x.Ports[3].Held = rank.Vector{Root: 77, Cost: 1, Bridge: 1, Port: 1}      // a root that the bridge may not hear of
	x.Ports[3].State = disabled
	want := own(x)
	want.Root, want.Cost, want.RootPort = 400, 29, 1
	for _, i := range []int{2, 3} {
		want.Ports[i].Held = rank.Vector{Root: 400, Cost: 29, Bridge: me, Port: x.Ports[i].Id}
	}
	checkView(t, "Update", tree.Update, x, want)
}

// TestUpdateToAnotherRoot lets the view know a root that no port holds any
// more, or a worse one than a port holds: what is designated is told by the new one.
func TestUpdateToAnotherRoot(t *testing.T) {
	for _, known := range []api.BridgeId{0, 300, 399, 401, me, 77} {
		x := seen(near(0x8001), fullPort(1), fullPort(2))
		x.Root, x.Cost, x.RootPort = known, 1, 2
		x.Ports[1].Held = rank.Vector{Root: known, Cost: 0, Bridge: 1, Port: 1}
		x.Ports[1].State = disabled
		x.Ports[2].Held = rank.Vector{Root: known, Cost: 1, Bridge: me, Port: x.Ports[2].Id}
		want := own(x)
		want.Root, want.Cost, want.RootPort = 400, 29, 0
		for i := 1; i < 3; i++ {
			want.Ports[i].Held = rank.Vector{Root: 400, Cost: 29, Bridge: me, Port: x.Ports[i].Id}
		}
		checkView(t, "Update", tree.Update, x, want)
	}
}

// TestUpdateToItself has no port lead any more: the bridge takes itself for
// the root, and what of its LANs is told is its own.
func TestUpdateToItself(t *testing.T) {
	x := seen(near(0x8001), fullPort(1), fullPort(2))
	x.Root, x.Cost, x.RootPort = 400, 29, 0
	x.Ports[0].State = disabled
	x.Ports[1].Held = rank.Vector{Root: 400, Cost: 29, Bridge: me, Port: x.Ports[1].Id}
	x.Ports[2].Held = rank.Vector{Root: 501, Cost: 0, Bridge: 501, Port: 1}
	want := own(x)
	want.Root, want.Cost, want.RootPort = me, 0, -1
	for i := range want.Ports {
		want.Ports[i].Held = rank.Vector{Root: me, Bridge: me, Port: x.Ports[i].Id}
	}
	checkView(t, "Update", tree.Update, x, want)
	checkView(t, "Update", tree.Update, want, want)
}
