package mgmt_test

import (
	"fmt"
	"testing"

	"treeline/api"
	"treeline/rank"
	"treeline/tree"
)

// 17.1: Off.

// TestOffOfEachState has a port in any state but Disabled be switched off; of
// one that is Disabled all stays as it was, also where the view would settle.
func TestOffOfEachState(t *testing.T) {
	for _, x := range []tree.Tree{rootView(4), ledView(4), unsettled(rootView(4)), unsettled(ledView(4))} {
		for _, state := range anyStates {
			for i := range x.Ports {
				x := own(x)
				x.Ports[i].State = state
				if state == disabled {
					checkNothing(t, "Off", offOf(i), x)
				} else {
					want, out := plainOff(x, i)
					check(t, "Off", offOf(i), x, want, out)
				}
			}
		}
	}
}

func TestOffOfNoPort(t *testing.T) {
	for ports := range 5 {
		for _, x := range []tree.Tree{rootView(ports), ledView(ports + 1), unsettled(ledView(ports + 3))} {
			for _, i := range noPlaces(len(x.Ports)) {
				checkNothing(t, fmt.Sprintf("Off of the place %d", i), offOf(i), x)
			}
		}
	}
	checkNothing(t, "Off", offOf(0), tree.Tree{})
}

// TestOffOfTheRoots switches a port of the root off: nothing is left of what
// it was but its Id and Cost. The bridge was the root, and goes on as it was:
// no change is detected, whatever the port's state, and nothing goes out.
func TestOffOfTheRoots(t *testing.T) {
	for _, hello := range someTimers() {
		for _, state := range anyStates[1:] {
			for i := range 3 {
				x := rootView(3)
				x.Hello = hello
				x.Ports[i].State, x.Ports[i].Age, x.Ports[i].Hold = state, runs(55), runs(56)
				want := own(x)
				rest(&want, i, disabled)
				check(t, "Off", offOf(i), x, want, nil)
			}
		}
	}
}

// TestOffOfADesignatedPort does so to one of a bridge that another one leads.
func TestOffOfADesignatedPort(t *testing.T) {
	for _, state := range anyStates[1:] {
		for _, i := range []int{1, 2} {
			x := ledView(4)
			x.Ports[i].State, x.Ports[i].Age, x.Ports[i].Hold = state, runs(55), runs(56)
			want := own(x)
			rest(&want, i, disabled)
			check(t, "Off", offOf(i), x, want, nil)
		}
	}
}

// TestOffOfABlockedPort does so to one that holds another bridge's telling: it
// holds what the view tells from then on.
func TestOffOfABlockedPort(t *testing.T) {
	x := ledView(4)
	want := own(x)
	rest(&want, 3, disabled)
	check(t, "Off", offOf(3), x, want, nil)
}

// TestOffOfThePortToTheRoot has another port that heard of the root: that one
// is the port to it, and rises; all others hold what is told by then. Nothing
// goes out, and the times stay, as does all that was detected.
func TestOffOfThePortToTheRoot(t *testing.T) {
	for flags := range 4 {
		for _, hello := range someTimers() {
			x := ledView(4)
			x.Detected, x.Change, x.Hello = flags&1 != 0, flags&2 != 0, hello
			want := own(x)
			want.Cost, want.RootPort = 145, 3
			rest(&want, 0, disabled)
			rise(&want, 3)
			tells(&want, 1, 2)
			check(t, "Off", offOf(0), x, want, nil)
		}
	}
}

// TestOffOfTheOnlyPortToTheRoot has none: the bridge leads from now on, by its
// own times, and tells it. What goes out is written byte by byte.
func TestOffOfTheOnlyPortToTheRoot(t *testing.T) {
	for flags := range 4 {
		for _, hello := range someTimers() {
			x := ledView(3)
			x.Detected, x.Change, x.Hello = flags&1 != 0, flags&2 != 0, hello
			x.Ports[2].Ack = false
			want := own(x)
			leads(&want)
			rest(&want, 0, disabled)
			for _, i := range []int{1, 2} {
				p := &want.Ports[i]
				p.Ack, p.Pending, p.Hold = false, false, runs(0)
			}
			check(t, "Off", offOf(0), x, want, []api.Out{
				goesOut(1, 0, 0, 0, 0, 0x81, 0x80, 1, 2, 3, 4, 5, 6, 7, 0, 0, 0, 0, 0x80, 1, 2, 3, 4, 5, 6, 7, 0x80, 2, 0, 0, 0x12, 0x36, 3, 6, 9, 6),
				goesOut(2, 0, 0, 0, 0, 0x01, 0x80, 1, 2, 3, 4, 5, 6, 7, 0, 0, 0, 0, 0x80, 1, 2, 3, 4, 5, 6, 7, 0x80, 3, 0, 0, 0x12, 0x36, 3, 6, 9, 6),
			})
		}
	}
}

// TestOffOfTheOnlyPortToTheRootOfLoudOnes has ports whose Hold runs: they owe
// a configuration, and nothing goes out.
func TestOffOfTheOnlyPortToTheRootOfLoudOnes(t *testing.T) {
	x := ledView(3)
	for i := range x.Ports {
		x.Ports[i].Hold, x.Ports[i].Pending = runs(i), false
	}
	want := own(x)
	leads(&want)
	rest(&want, 0, disabled)
	want.Ports[1].Pending, want.Ports[2].Pending = true, true
	check(t, "Off", offOf(0), x, want, nil)
}

// TestOffOfOneThatTellsWorse has another port that heard of a root that is
// worse than the bridge, or is it: the bridge leads from now on.
func TestOffOfOneThatTellsWorse(t *testing.T) {
	for _, root := range []api.BridgeId{me, me + 1, 1<<64 - 1} {
		x := ledView(4)
		x.Ports[3].Held.Root = root
		want := own(x)
		leads(&want)
		rest(&want, 0, disabled)
		want.Ports[3].Age = rests
		rise(&want, 3)
		out := told(&want, 1, 2)
		want.Ports[3].Pending = true
		check(t, "Off", offOf(0), x, want, out)
	}
}

// TestOffOfTheOnlyPortThatIsOn leaves nobody to tell: nothing goes out.
func TestOffOfTheOnlyPortThatIsOn(t *testing.T) {
	for ports := 1; ports <= 4; ports++ {
		x := rootView(ports)
		for i := range ports - 1 {
			rest(&x, i, disabled)
		}
		want := own(x)
		rest(&want, ports-1, disabled)
		check(t, "Off", offOf(ports-1), x, want, nil)

		x = ledView(ports)
		for i := 1; i < ports; i++ {
			rest(&x, i, disabled)
		}
		want = own(x)
		leads(&want)
		rest(&want, 0, disabled)
		check(t, "Off", offOf(0), x, want, nil)
	}
}

// TestOffLosesAnother has a view that isn't settled: by that it settles a port
// is lost that learns, or forwards. Who isn't the root by then tells it, by
// the port that leads there by then.
func TestOffLosesAnother(t *testing.T) {
	for _, state := range anyStates {
		for _, detected := range []bool{false, true} {
			x := ledView(4)
			x.Detected = detected
			x.Ports[2].State = state
			x.Ports[2].Held = rank.Vector{Root: other, Cost: 144, Bridge: next, Port: 0x8009}
			want := own(x)
			want.Cost, want.RootPort = 145, 3
			rest(&want, 0, disabled)
			tells(&want, 1)
			rise(&want, 3)
			want.Ports[2].Ack, want.Ports[2].Pending = false, false
			if state != disabled && state != blocking {
				blocked(&want, 2)
			}
			var out []api.Out
			if lost := state == learning || state == forwarding; lost && !detected {
				want.Detected, want.Tcn = true, runs(0)
				out = []api.Out{tcnBy(3)}
			}
			check(t, "Off", offOf(0), x, want, out)
		}
	}
}

// TestOffOfTheRootThatLosesAnother has the root lose one that hears itself.
func TestOffOfTheRootThatLosesAnother(t *testing.T) {
	x := rootView(3)
	x.Ports[2].Held.Port, x.Ports[2].State = 0x8001, forwarding
	want := own(x)
	rest(&want, 0, disabled)
	blocked(&want, 2)
	want.Detected, want.Change, want.Told = true, true, runs(0)
	check(t, "Off", offOf(0), x, want, nil)
}

// TestOffOfOneThatIsTheRootNoMore has a view that isn't settled: the bridge
// takes itself for the root ahead of Off, and doesn't behind it. Hello goes on.
func TestOffOfOneThatIsTheRootNoMore(t *testing.T) {
	for _, hello := range someTimers() {
		x := ledView(3)
		x.Root, x.Cost, x.RootPort, x.Hello = me, 0, -1, hello
		want := ledView(3)
		want.Hello = hello
		rest(&want, 1, disabled)
		check(t, "Off", offOf(1), x, want, nil)
	}
}

// TestOffTwice has the second time change nothing.
func TestOffTwice(t *testing.T) {
	for _, x := range []tree.Tree{rootView(3), ledView(3), ledView(4)} {
		for i := range x.Ports {
			y, _ := plainOff(x, i)
			checkNothing(t, "Off", offOf(i), y)
		}
	}
}

// TestOffAndOn has a port of the root be as one that begins, behind both.
func TestOffAndOn(t *testing.T) {
	x := rootView(2)
	y := own(x)
	rest(&y, 0, disabled)
	check(t, "Off", offOf(0), x, y, nil)
	z := own(y)
	rise(&z, 0)
	check(t, "On", onOf(0), y, z, nil)
}
