package mgmt_test

import (
	"fmt"
	"math"
	"testing"

	"treeline/api"
	"treeline/rank"
	"treeline/tree"
)

// 17.2.

// wrongCosts are no port's, rightCosts may be.
var (
	wrongCosts = []uint32{0, 65536, 65537, 65536 + 19, 1 << 17, 1 << 31, math.MaxUint32 - 19, math.MaxUint32}
	rightCosts = []uint32{1, 2, 19, 255, 256, 32767, 32768, 65534, 65535}
)

// TestCostOfNoPort has no port be told of first, whatever the cost.
func TestCostOfNoPort(t *testing.T) {
	for ports := range 5 {
		for _, x := range []tree.Tree{rootView(ports), ledView(ports + 1), unsettled(ledView(ports + 3))} {
			for _, i := range noPlaces(len(x.Ports)) {
				for _, cost := range []uint32{0, 1, 19, 65535, 65536, math.MaxUint32} {
					checkNothing(t, fmt.Sprintf("Cost of the place %d", i), costOf(t, i, cost, errNone), x)
				}
			}
		}
	}
	checkNothing(t, "Cost", costOf(t, 0, 0, errNone), tree.Tree{})
}

// TestWrongCost leaves the view as it was, also where it would settle, and
// whatever the port's state, and its cost before.
func TestWrongCost(t *testing.T) {
	for _, cost := range wrongCosts {
		for _, x := range []tree.Tree{rootView(4), ledView(4), unsettled(rootView(4)), unsettled(ledView(4))} {
			for i := range x.Ports {
				for _, state := range anyStates {
					x := own(x)
					x.Ports[i].State = state
					checkNothing(t, "Cost", costOf(t, i, cost, errForm), x)
					x.Ports[i].Cost = cost
					checkNothing(t, "Cost", costOf(t, i, cost, errForm), x)
				}
			}
		}
	}
}

// TestRightCost changes nothing else of the root.
func TestRightCost(t *testing.T) {
	for _, cost := range rightCosts {
		for i := range 4 {
			x := rootView(4)
			want := own(x)
			want.Ports[i].Cost = cost
			check(t, "Cost", costOf(t, i, cost, fine), x, want, nil)
			x.Ports[i].Cost = 1 << 20
			check(t, "Cost", costOf(t, i, cost, fine), x, want, nil)
		}
	}
}

// TestCostOfAPortThatIsOff has it be that once it is on: its state stays.
func TestCostOfAPortThatIsOff(t *testing.T) {
	for _, x := range []tree.Tree{rootView(3), ledView(3)} {
		rest(&x, 1, disabled)
		for _, cost := range rightCosts {
			want := own(x)
			want.Ports[1].Cost = cost
			check(t, "Cost", costOf(t, 1, cost, fine), x, want, nil)
		}
	}
	// However near it is, it leads nowhere.
	x := ledView(4)
	x.Ports[3].State = disabled
	want := own(x)
	want.Ports[3].Cost = 1
	check(t, "Cost", costOf(t, 3, 1, fine), x, want, nil)
}

// TestCostOfADesignatedPort has the way to the root stay what it is.
func TestCostOfADesignatedPort(t *testing.T) {
	for _, cost := range rightCosts {
		x := ledView(4)
		want := own(x)
		want.Ports[2].Cost = cost
		check(t, "Cost", costOf(t, 2, cost, fine), x, want, nil)
	}
}

// TestCostOfThePortToTheRoot has it stay that while it leads better than that
// at 3, which is 145 far: the others hold what is told by then.
func TestCostOfThePortToTheRoot(t *testing.T) {
	for _, cost := range []uint32{9, 19, 20, 86, 87} {
		x := ledView(4)
		want := own(x)
		want.Ports[0].Cost, want.Cost = cost, 58+cost
		tells(&want, 1, 2)
		check(t, "Cost", costOf(t, 0, cost, fine), x, want, nil)
	}
	// So near that the LAN at 3, 66 far, is told by the bridge itself.
	for _, cost := range []uint32{1, 7, 8} {
		x := ledView(4)
		want := own(x)
		want.Ports[0].Cost, want.Cost = cost, 58+cost
		tells(&want, 1, 2)
		if 58+cost < 66 {
			tells(&want, 3)
			want.Ports[3].Age = rests
			rise(&want, 3)
		}
		check(t, "Cost", costOf(t, 0, cost, fine), x, want, nil)
	}
}

// TestCostOfAlikeWays has two ports lead as far: the lesser bridge ahead is
// the better one, and of the same bridge's its lesser port, then one's own.
func TestCostOfAlikeWays(t *testing.T) {
	for _, c := range []struct {
		ahead  rank.Vector
		own    api.PortId
		better bool
	}{
		{rank.Vector{Bridge: next - 1, Port: 0x9000}, 0x9000, true},
		{rank.Vector{Bridge: next + 1, Port: 0x8001}, 0x0001, false},
		{rank.Vector{Bridge: next, Port: 0x8002}, 0x9000, true},
		{rank.Vector{Bridge: next, Port: 0x8004}, 0x0001, false},
		{rank.Vector{Bridge: next, Port: 0x8003}, 0x8000, true},
		{rank.Vector{Bridge: next, Port: 0x8003}, 0x8005, false},
	} {
		x := ledView(4)
		x.Ports[0].State = listening
		x.Ports[3].Id, x.Ports[3].Held = c.own, c.ahead
		x.Ports[3].Held.Root, x.Ports[3].Held.Cost = other, 66
		want := own(x)
		want.Ports[3].Cost = 11
		if c.better {
			want.RootPort = 3
			blocked(&want, 0)
			rise(&want, 3)
		}
		check(t, "Cost", costOf(t, 3, 11, fine), x, want, nil)
	}
}

// TestCostThatLetsAnotherPortLead makes the port to the root so far that
// another one becomes that, and what its LAN is told is better than what the
// bridge tells: it is lost, where it learnt, or forwarded.
func TestCostThatLetsAnotherPortLead(t *testing.T) {
	for _, cost := range []uint32{88, 89, 200, 65535} {
		checkAnotherLeads(t, 0, cost, 145)
	}
}

// TestCostThatLetsThisPortLead makes another port so near that it becomes the
// port to the root, and the former one is lost likewise.
func TestCostThatLetsThisPortLead(t *testing.T) {
	for _, cost := range []uint32{1, 5, 10} {
		checkAnotherLeads(t, 3, cost, 66+cost)
	}
}

// checkAnotherLeads gives the port at i a cost by which that at 3 leads to the
// root, so far, and that at 0, which did, is blocked.
func checkAnotherLeads(t *testing.T, i int, cost, far uint32) {
	t.Helper()
	for _, state := range []int{disabled, blocking, listening, learning, forwarding} {
		for _, detected := range []bool{false, true} {
			x := ledView(4)
			x.Detected, x.Ports[0].State, x.Ports[0].Ack, x.Ports[0].Pending = detected, state, true, true
			want := own(x)
			want.Ports[i].Cost, want.Cost, want.RootPort = cost, far, 3
			tells(&want, 1, 2)
			rise(&want, 3)
			want.Ports[0].Ack, want.Ports[0].Pending = false, false
			if state != disabled {
				blocked(&want, 0)
			}
			var out []api.Out
			if (state == learning || state == forwarding) && !detected {
				want.Detected, want.Tcn = true, runs(0)
				out = []api.Out{tcnBy(3)}
			}
			check(t, "Cost", costOf(t, i, cost, fine), x, want, out)
		}
	}
}

// TestCostOfWhatIsFar has what is held be as far as may be: the way is cut at
// the greatest number.
func TestCostOfWhatIsFar(t *testing.T) {
	for _, held := range []uint32{1<<31 - 1, math.MaxUint32 - 65535, math.MaxUint32 - 65534, math.MaxUint32} {
		x := ledView(3)
		x.Ports[0].Held.Cost = held
		want := own(x)
		want.Ports[0].Cost = 65535
		want.Cost = uint32(min(uint64(held)+65535, math.MaxUint32))
		tells(&want, 1, 2)
		if held == math.MaxUint32 {
			want.Ports[0].Held = x.Ports[0].Held
		}
		check(t, "Cost", costOf(t, 0, 65535, fine), x, want, nil)
	}
}

// TestCostOfOneThatLeadsFromThenOn has a view that isn't settled: no port
// holds of a better root any more, which the bridge comes to know by that.
func TestCostOfOneThatLeadsFromThenOn(t *testing.T) {
	for _, hello := range someTimers() {
		x := ledView(4)
		x.Hello = hello
		for i := range x.Ports {
			x.Ports[i].Held.Bridge, x.Ports[i].Held.Port = me, x.Ports[i].Id
		}
		want := own(x)
		leads(&want)
		want.Ports[1].Cost = 4
		want.Ports[0].Age, want.Ports[3].Age = rests, rests
		rise(&want, 3)
		want.Ports[0].Pending, want.Ports[3].Pending = true, true
		out := told(&want, 1, 2)
		check(t, "Cost", costOf(t, 1, 4, fine), x, want, out)
	}
}

// TestCostOfOneThatIsTheRootNoMore has a view that isn't settled: the bridge
// takes itself for the root ahead of Cost, and doesn't behind it. Hello goes on.
func TestCostOfOneThatIsTheRootNoMore(t *testing.T) {
	for _, hello := range someTimers() {
		x := ledView(3)
		x.Root, x.Cost, x.RootPort, x.Hello = me, 0, -1, hello
		want := ledView(3)
		want.Hello, want.Ports[2].Cost = hello, 4
		check(t, "Cost", costOf(t, 2, 4, fine), x, want, nil)
	}
}

// TestCostThatStays settles the view all the same.
func TestCostThatStays(t *testing.T) {
	for _, x := range []tree.Tree{rootView(4), ledView(4)} {
		for i, p := range x.Ports {
			check(t, "Cost", costOf(t, i, p.Cost, fine), x, x, nil)
			y := unsettled(x)
			want, out := plainAgain(y, y)
			check(t, "Cost", costOf(t, i, p.Cost, fine), y, want, out)
		}
	}
}
