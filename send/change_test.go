package send_test

import (
	"testing"

	"treeline/api"
	"treeline/send"
	"treeline/tree"
)

// tcnBy is the TCN that goes out by a port from my address.
func tcnBy(i int) []api.Out {
	return []api.Out{goesOut(i, 0, 0, 0, 0x80)}
}

// someTimers answers timers that rest and run, at 0, at the greatest Value, and between.
func someTimers() []api.Timer {
	return []api.Timer{rests, runs(0), runs(256), runs(512), runs(longest)}
}

// 14.2: Tcn.

// TestTcn lets each port be that to the root, in each state, and whatever it
// owes, and be its Hold running: what goes out hangs on its place alone.
func TestTcn(t *testing.T) {
	for _, ports := range []int{1, 2, 4} {
		for place := range ports {
			for _, state := range anyStates {
				for _, hold := range someTimers() {
					x := ledView(ports)
					x.RootPort = place
					x.Ports[place].State, x.Ports[place].Hold = state, hold
					check(t, "Tcn", tcn, x, x, tcnBy(place))
					x.Ports[place].Ack, x.Ports[place].Pending = false, false
					check(t, "Tcn", tcn, x, x, tcnBy(place))
				}
			}
		}
	}
	x := ledView(1000)
	for place := range x.Ports {
		x.RootPort = place
		checkOnce(t, "Tcn", tcn, x, x, tcnBy(place))
	}
}

// TestTcnWithoutAPortToTheRoot has views whose RootPort is no place of a port.
func TestTcnWithoutAPortToTheRoot(t *testing.T) {
	for ports := range 5 {
		for _, place := range append([]int{ports, ports + 1, ports + 256, ports + 1<<32}, noPlaces...) {
			x := aloneView(ports)
			x.RootPort = place
			checkNothing(t, "Tcn", tcn, x)
			x.Root = 1
			checkNothing(t, "Tcn", tcn, x)
		}
	}
	checkNothing(t, "Tcn", tcn, tree.Tree{})
}

// TestTcnLooksAtNoMore lets a change be detected or told or not, what was
// heard be too old, and the bridge take itself for the root all the same.
func TestTcnLooksAtNoMore(t *testing.T) {
	for flags := range 16 {
		x := ledView(3)
		x.RootPort = 1
		x.Detected, x.Change = flags&1 != 0, flags&2 != 0
		if flags&4 != 0 {
			x.Now, x.Mine, x.Ports[1].Age = tree.Times{}, tree.Times{}, runs(longest)
		}
		if flags&8 != 0 {
			x.Root, x.Cost = me, 0
		}
		for _, running := range someTimers() {
			x.Tcn, x.Told, x.Hello = running, running, running
			check(t, "Tcn", tcn, x, x, tcnBy(1))
		}
	}
}

// 14.2: Detect.

// eachChange answers the view with each of Change and Detected, set or not,
// and each of Told and Tcn, running or at rest.
func eachChange(x tree.Tree) []tree.Tree {
	var all []tree.Tree
	for flags := range 4 {
		for _, told := range someTimers() {
			for _, running := range someTimers() {
				all = append(all, with(x, func(x *tree.Tree) {
					x.Change, x.Detected = flags&1 != 0, flags&2 != 0
					x.Told, x.Tcn = told, running
				}))
			}
		}
	}
	return all
}

// TestDetectOfTheRoot has a bridge that takes itself for the root, detected
// before or not: each time it is told, and Told runs from 0.
func TestDetectOfTheRoot(t *testing.T) {
	for _, place := range append([]int{0, 1, 2, 3}, noPlaces...) {
		for _, x := range eachChange(aloneView(3)) {
			x.RootPort = place
			want := own(x)
			want.Change, want.Detected, want.Told = true, true, runs(0)
			check(t, "Detect", send.Detect, x, want, nil)
			check(t, "Detect", send.Detect, want, want, nil)
		}
	}
}

// TestDetectOfAnother has a bridge that doesn't take itself for the root: it
// is told once, and as long as it was detected nothing happens.
func TestDetectOfAnother(t *testing.T) {
	for _, place := range []int{0, 1, 2} {
		for _, x := range eachChange(ledView(3)) {
			x.RootPort = place
			if x.Detected {
				checkNothing(t, "Detect", send.Detect, x)
				continue
			}
			want := own(x)
			want.Detected, want.Tcn = true, runs(0)
			check(t, "Detect", send.Detect, x, want, tcnBy(place))
			checkNothing(t, "Detect", send.Detect, want)
		}
	}
}

// TestDetectWithoutAPortToTheRoot has one that no port leads to the root: it
// is detected all the same, and none goes out.
func TestDetectWithoutAPortToTheRoot(t *testing.T) {
	for _, place := range append([]int{3, 4}, noPlaces...) {
		for _, x := range eachChange(ledView(3)) {
			x.RootPort = place
			want := own(x)
			if !x.Detected {
				want.Detected, want.Tcn = true, runs(0)
			}
			check(t, "Detect", send.Detect, x, want, nil)
		}
	}
}

// TestDetectWhoIsTheRoot looks at each bit of the root's number: one alone
// makes another one, be that better or worse.
func TestDetectWhoIsTheRoot(t *testing.T) {
	for bit := range 64 {
		x := ledView(2)
		x.Root = me ^ 1<<bit
		want := with(x, func(x *tree.Tree) { x.Detected, x.Tcn = true, runs(0) })
		check(t, "Detect", send.Detect, x, want, tcnBy(0))
	}
}

// TestDetectLooksAtNoPort lets Hold of all ports run, and all be Disabled.
func TestDetectLooksAtNoPort(t *testing.T) {
	for _, x := range []tree.Tree{ledView(3), aloneView(3)} {
		for i := range x.Ports {
			x.Ports[i].Hold, x.Ports[i].State = runs(10), disabled
			x.Ports[i].Age = runs(longest)
		}
		want, out := plainDetect(x)
		check(t, "Detect", send.Detect, x, want, out)
	}
}

// 14.2: Acked.

func TestAcked(t *testing.T) {
	for _, from := range []tree.Tree{ledView(3), aloneView(3), ledView(1), aloneView(0), {}} {
		for _, x := range eachChange(from) {
			want := own(x)
			want.Detected, want.Tcn = false, rests
			check(t, "Acked", acked, x, want, nil)
			checkNothing(t, "Acked", acked, want)
		}
	}
}

// TestDetectBehindAcked lets a change that was heard be followed by another:
// that one is told anew.
func TestDetectBehindAcked(t *testing.T) {
	x, out := send.Detect(ledView(3))
	if !sameOut(out, tcnBy(0)) {
		t.Fatalf("Detect: %x", out)
	}
	x.Tcn = runs(300)
	x = send.Acked(x)
	want := with(x, func(x *tree.Tree) { x.Detected, x.Tcn = true, runs(0) })
	check(t, "Detect", send.Detect, x, want, tcnBy(0))
}
