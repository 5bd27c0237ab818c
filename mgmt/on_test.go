package mgmt_test

import (
	"fmt"
	"testing"

	"treeline/api"
	"treeline/rank"
	"treeline/tree"
)

// 17.1: On.

// TestOnOfEachState has a port that is Disabled be on its way by On; of one in
// any other state all stays as it was, also where States would change the view.
func TestOnOfEachState(t *testing.T) {
	for _, x := range []tree.Tree{rootView(4), ledView(4), unsettled(rootView(4)), unsettled(ledView(4))} {
		for _, state := range anyStates {
			for i := range x.Ports {
				x := own(x)
				x.Ports[i].State = state
				if state != disabled {
					checkNothing(t, "On", onOf(i), x)
				} else {
					want, out := plainOn(x, i)
					check(t, "On", onOf(i), x, want, out)
				}
			}
		}
	}
}

func TestOnOfNoPort(t *testing.T) {
	for ports := range 5 {
		for _, x := range []tree.Tree{rootView(ports), ledView(ports + 1), unsettled(ledView(ports + 3))} {
			for i := range x.Ports {
				x.Ports[i].State = disabled
			}
			for _, i := range noPlaces(len(x.Ports)) {
				checkNothing(t, fmt.Sprintf("On of the place %d", i), onOf(i), x)
			}
		}
	}
	checkNothing(t, "On", onOf(0), tree.Tree{})
}

// left are views whose port at 1 is Disabled, of each thing that may be left
// of what it was: whatever it holds, owes, and how long its timers have run.
func left(x tree.Tree) []tree.Tree {
	var all []tree.Tree
	for _, held := range []rank.Vector{
		{}, x.Ports[1].Held, {Root: me, Bridge: me, Port: 0x8001}, {Root: 1, Cost: 2, Bridge: 3, Port: 4},
		{Root: me + 1, Cost: 1 << 31, Bridge: me + 1, Port: 0x8002}, {Root: other, Cost: 77, Bridge: me, Port: 0x8002},
	} {
		for _, timer := range someTimers() {
			for turn := range 12 {
				y := own(x)
				p := &y.Ports[1]
				*p = api.Port{Id: p.Id, State: disabled, Cost: p.Cost, Held: held, Ack: turn&1 != 0, Pending: turn&2 != 0}
				*[]*api.Timer{&p.Age, &p.Delay, &p.Hold}[turn/4] = timer
				all = append(all, y)
			}
		}
	}
	return all
}

// TestOnLeavesNothing has nothing be left of what the port was but its Id and Cost.
func TestOnLeavesNothing(t *testing.T) {
	for _, x := range []tree.Tree{rootView(3), ledView(3), ledView(4)} {
		want := own(x)
		want.Ports[1] = api.Port{
			Id: 0x8002, State: listening, Cost: 39, Delay: runs(0),
			Held: rank.Vector{Root: x.Root, Cost: x.Cost, Bridge: me, Port: 0x8002},
		}
		for _, y := range left(x) {
			check(t, "On", onOf(1), y, want, nil)
		}
	}
}

// TestOnKeepsIdAndCost has ports of any Id and Cost be switched on.
func TestOnKeepsIdAndCost(t *testing.T) {
	for _, id := range []api.PortId{0, 1, 0x8001, 0xff00, 0xffff} {
		for _, cost := range []uint32{0, 1, 19, 65535, 65536, 1<<32 - 1} {
			x := rootView(1)
			x.Ports[0] = api.Port{Id: id, State: disabled, Cost: cost}
			want := own(x)
			want.Ports[0] = api.Port{
				Id: id, State: listening, Cost: cost, Delay: runs(0),
				Held: rank.Vector{Root: me, Cost: 0, Bridge: me, Port: id},
			}
			check(t, "On", onOf(0), x, want, nil)
		}
	}
}

// TestOnOfEachPlace switches each port on, the first one and the last one too.
func TestOnOfEachPlace(t *testing.T) {
	for ports := 1; ports <= 4; ports++ {
		for i := range ports {
			x := rootView(ports)
			x.Ports[i].State = disabled
			want := own(x)
			rest(&want, i, blocking)
			rise(&want, i)
			check(t, "On", onOf(i), x, want, nil)
		}
	}
}

// TestOnOfAllOneBehindAnother has a bridge all of whose ports are off.
func TestOnOfAllOneBehindAnother(t *testing.T) {
	x := rootView(4)
	for i := range x.Ports {
		rest(&x, i, disabled)
	}
	for i := range x.Ports {
		want := own(x)
		rise(&want, i)
		check(t, "On", onOf(i), x, want, nil)
		x = want
	}
}

// TestOnIsStates has States do to all ports what it does: that to the root
// owes nothing and rises, those that are designated rise and let Age rest,
// others owe nothing and are blocked.
func TestOnIsStates(t *testing.T) {
	x := ledView(4)
	for i := range x.Ports {
		p := &x.Ports[i]
		p.State, p.Ack, p.Pending, p.Age = blocking, true, true, runs(i)
	}
	x.Ports[1].State = disabled
	x.Ports[3].State, x.Ports[3].Delay = listening, runs(9)
	want := own(x)
	rest(&want, 1, blocking)
	for _, i := range []int{0, 1, 2} {
		rise(&want, i)
	}
	want.Ports[0].Ack, want.Ports[0].Pending = false, false
	want.Ports[2].Age = rests
	blocked(&want, 3)
	check(t, "On", onOf(1), x, want, nil)
}

// TestOnLosesAnother has a port that holds another bridge's telling, or that
// of another port of its own, in each state: where it learns, or forwards, it
// is lost. The root tells it; any other one tells the root, once.
func TestOnLosesAnother(t *testing.T) {
	for _, state := range anyStates {
		for flags := range 8 {
			x := ledView(3)
			x.Ports[2].Held = rank.Vector{Root: other, Cost: 77, Bridge: me - 1, Port: 0x8009}
			root := flags&1 != 0
			if root {
				x = rootView(3)
				x.Ports[2].Held.Port = 0x8001
			}
			x.Detected, x.Change = flags&2 != 0, flags&4 != 0
			x.Ports[1].State, x.Ports[2].State = disabled, state
			want := own(x)
			rest(&want, 1, blocking)
			rise(&want, 1)
			want.Ports[2].Ack, want.Ports[2].Pending = false, false
			if state != disabled && state != blocking {
				blocked(&want, 2)
			}
			lost := state == learning || state == forwarding
			var out []api.Out
			switch {
			case lost && root:
				want.Detected, want.Change, want.Told = true, true, runs(0)
			case lost && !x.Detected:
				want.Detected, want.Tcn = true, runs(0)
				out = []api.Out{tcnBy(0)}
			}
			check(t, "On", onOf(1), x, want, out)
		}
	}
}

// TestOnLosesTwo loses two ports at once: one TCN goes out, byte by byte this
// one, by the port to the root, also where that stands behind them.
func TestOnLosesTwo(t *testing.T) {
	x := ledView(4)
	x.Ports[0], x.Ports[2] = x.Ports[2], x.Ports[0]
	x.RootPort = 2
	for _, i := range []int{0, 3} {
		x.Ports[i].Held = rank.Vector{Root: other, Cost: 66, Bridge: next, Port: api.PortId(i)}
		x.Ports[i].State = forwarding
	}
	x.Ports[1].State = disabled
	want := own(x)
	rest(&want, 1, blocking)
	rise(&want, 1)
	blocked(&want, 0)
	blocked(&want, 3)
	want.Detected, want.Tcn = true, runs(0)
	check(t, "On", onOf(1), x, want, []api.Out{{Port: 2, Frame: api.Frame{
		To: 0x0180c2000000, From: 0x020304050607, Kind: 7, Data: []byte{0x42, 0x42, 3, 0, 0, 0, 0x80},
	}}})
}

// TestOnWithoutAPortToTheRoot has a bridge that knows another root, to which no
// port of its leads: a change is detected, and there is nobody to tell it.
func TestOnWithoutAPortToTheRoot(t *testing.T) {
	for _, place := range []int{-1, 3, 97} {
		x := ledView(3)
		x.RootPort = place
		x.Ports[1].State = disabled
		want := own(x)
		rest(&want, 1, blocking)
		rise(&want, 1)
		blocked(&want, 0)
		want.Detected, want.Tcn = true, runs(0)
		check(t, "On", onOf(1), x, want, nil)
	}
}

// TestOnOfThePortToTheRoot has a view whose port to the root is Disabled: it
// is on its way, and holds what the view tells.
func TestOnOfThePortToTheRoot(t *testing.T) {
	x := ledView(3)
	x.Ports[0].State = disabled
	want := own(x)
	rest(&want, 0, blocking)
	rise(&want, 0)
	check(t, "On", onOf(0), x, want, nil)
}

// TestOnDoesNotUpdate has a view in which ports hold of a better root, and
// tell what isn't so any more: who the root is, is not asked anew, nothing but
// the port at 1 becomes what the view tells, and a bridge that would take
// itself for the root doesn't lead.
func TestOnDoesNotUpdate(t *testing.T) {
	x := rootView(3)
	x.Ports[0].Held = rank.Vector{Root: other, Cost: 1, Bridge: next, Port: 0x8001}
	x.Ports[0].State = forwarding
	x.Ports[1].State = disabled
	x.Ports[2].Held.Root, x.Ports[2].Held.Cost = other+1, 55
	want := own(x)
	rest(&want, 1, blocking)
	rise(&want, 1)
	blocked(&want, 0)
	want.Detected, want.Change, want.Told = true, true, runs(0)
	check(t, "On", onOf(1), x, want, nil)

	x = rootView(3)
	x.Root, x.Cost = other, 55
	x.Ports[1].State = disabled
	want = own(x)
	rest(&want, 1, blocking)
	rise(&want, 1)
	check(t, "On", onOf(1), x, want, nil)
}
