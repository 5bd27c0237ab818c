package heard_test

import (
	"testing"

	"treeline/api"
	"treeline/rank"
	"treeline/tree"
)

// 15.2: Tcn.

// TestTcn tells byte by byte what goes out of a bridge that others lead, when
// a designated port hears a TCN: one by the port to the root first, and then
// the acknowledgement; the root tells that the tree changes instead.
func TestTcn(t *testing.T) {
	x := ledView(3)
	x.Ports[1].Ack = false
	want := own(x)
	want.Detected, want.Tcn = true, runs(0)
	want.Ports[1].Pending, want.Ports[1].Hold = false, runs(0)
	check(t, "Tcn", tcnOf(1), x, want, []api.Out{
		goesOut(0, 0, 0, 0, 0x80),
		goesOut(1, 0, 0, 0, 0, 0x80, 0, 0, 0, 0, 0, 0, 0x12, 0x34, 0, 0, 0, 77, 0x80, 1, 2, 3, 4, 5, 6, 7, 0x80, 2, 4, 0xe8, 0x14, 1, 2, 1, 0x0f, 1),
	})

	x = aloneView(3)
	x.Ports[2].Ack = false
	want = own(x)
	want.Detected, want.Change, want.Told = true, true, runs(0)
	want.Ports[2].Pending, want.Ports[2].Hold = false, runs(0)
	check(t, "Tcn", tcnOf(2), x, want, []api.Out{
		goesOut(2, 0, 0, 0, 0, 0x81, 0x80, 1, 2, 3, 4, 5, 6, 7, 0, 0, 0, 0, 0x80, 1, 2, 3, 4, 5, 6, 7, 0x80, 3, 0, 0, 0x14, 1, 2, 1, 0x0f, 1),
	})
}

// TestTcnOfNoPort asks for places below 0, of the number of ports, and beyond.
func TestTcnOfNoPort(t *testing.T) {
	for ports := range 5 {
		for _, place := range append([]int{ports, ports + 1, ports + 256, ports - 256, ports + 1<<32}, noPlaces...) {
			checkNothing(t, "Tcn", tcnOf(place), aloneView(ports))
			x := aloneView(ports)
			x.Root, x.RootPort = other, place
			checkNothing(t, "Tcn", tcnOf(place), x)
		}
	}
	checkNothing(t, "Tcn", tcnOf(0), tree.Tree{})
	checkNothing(t, "Tcn", tcnOf(1000), ledView(1000))
}

// TestTcnOfEachState has a designated port, and two that aren't, in each
// state: a Disabled one hears nothing, nor does one that isn't designated.
func TestTcnOfEachState(t *testing.T) {
	for _, state := range anyStates {
		for place := range 4 {
			for _, x := range []tree.Tree{ledView(4), aloneView(4)} {
				x.Ports[place].State = state
				designated := x.Root == me || place == 1 || place == 2
				if state == disabled || !designated {
					checkNothing(t, "Tcn", tcnOf(place), x)
					continue
				}
				want := own(x)
				want.Detected = true
				var out []api.Out
				age := uint16(0)
				if x.Root == me {
					want.Change, want.Told = true, runs(0)
				} else {
					want.Tcn, age = runs(0), 1256
					out = []api.Out{tcnBy(0)}
				}
				want.Ports[place].Ack = true
				out = append(out, told(&want, age, place)...)
				check(t, "Tcn", tcnOf(place), x, want, out)
			}
		}
	}
}

// TestTcnOfWhatOneHolds looks at each bit of who tells, and by which port: one
// alone makes a port that isn't designated. Root and Cost make none.
func TestTcnOfWhatOneHolds(t *testing.T) {
	for bit := range 64 {
		x := ledView(3)
		x.Ports[1].Held.Bridge ^= 1 << bit
		checkNothing(t, "Tcn", tcnOf(1), x)
		x = ledView(3)
		x.Ports[1].Held.Port ^= 1 << (bit % 16)
		checkNothing(t, "Tcn", tcnOf(1), x)
		x = ledView(3)
		x.Ports[1].Held.Root ^= 1 << bit
		x.Ports[1].Held.Cost ^= 1 << (bit % 32)
		want := own(x)
		want.Detected, want.Tcn = true, runs(0)
		out := append([]api.Out{tcnBy(0)}, told(&want, 1256, 1)...)
		check(t, "Tcn", tcnOf(1), x, want, out)
	}
}

// TestTcnDetectedBefore lets a change be detected, or told, or not, and each
// timer run or rest: the root tells it anew; any other one sends no TCN again,
// but acknowledges what was heard.
func TestTcnDetectedBefore(t *testing.T) {
	for flags := range 4 {
		for _, running := range someTimers() {
			for _, since := range someTimers() {
				for _, x := range []tree.Tree{ledView(3), aloneView(3)} {
					x.Detected, x.Change = flags&1 != 0, flags&2 != 0
					x.Tcn, x.Told = running, since
					want := own(x)
					want.Detected = true
					var out []api.Out
					age := uint16(0)
					if x.Root == me {
						want.Change, want.Told = true, runs(0)
					} else {
						age = 1256
						if !x.Detected {
							want.Tcn = runs(0)
							out = []api.Out{tcnBy(0)}
						}
					}
					out = append(out, told(&want, age, 1)...)
					checkOnce(t, "Tcn", tcnOf(1), x, want, out)
				}
			}
		}
	}
}

// TestTcnWhileHoldRuns has the port owe this and that while its Hold runs: it
// owes both then; while it rests it owes neither, as what went out told both.
func TestTcnWhileHoldRuns(t *testing.T) {
	for owes := range 4 {
		for _, hold := range someTimers() {
			for _, x := range []tree.Tree{ledView(3), aloneView(3)} {
				p := &x.Ports[1]
				p.Ack, p.Pending, p.Hold = owes&1 != 0, owes&2 != 0, hold
				x.Detected = true
				want := own(x)
				want.Ports[1].Ack = true
				age := uint16(1256)
				if x.Root == me {
					want.Change, want.Told = true, runs(0)
					age = 0
				}
				var out []api.Out
				if hold.On {
					want.Ports[1].Pending = true
				} else {
					out = told(&want, age, 1)
				}
				check(t, "Tcn", tcnOf(1), x, want, out)
			}
		}
	}
}

// TestTcnOfWhatIsTooOld has a port that can't tell, as what leads to the root
// is too old: it owes the acknowledgement, and no configuration.
func TestTcnOfWhatIsTooOld(t *testing.T) {
	x := ledView(3)
	x.Now.MaxAge = 1256
	x.Ports[1].Ack, x.Ports[1].Pending = false, false
	want := own(x)
	want.Detected, want.Tcn, want.Ports[1].Ack = true, runs(0), true
	check(t, "Tcn", tcnOf(1), x, want, []api.Out{tcnBy(0)})
}

// TestTcnWithoutAPortToTheRoot has a bridge that neither takes itself for the
// root nor has a port to it: it is detected, and acknowledged.
func TestTcnWithoutAPortToTheRoot(t *testing.T) {
	for _, place := range []int{-1, 3, 1000} {
		x := ledView(3)
		x.RootPort = place
		want := own(x)
		want.Detected, want.Tcn = true, runs(0)
		out := told(&want, 0, 1)
		check(t, "Tcn", tcnOf(1), x, want, out)
	}
}

// TestTcnDoesNotSettle hands in a view that isn't settled: who is the root,
// and what the ports hold and are, stays.
func TestTcnDoesNotSettle(t *testing.T) {
	x := ledView(4)
	x.Ports[2].Held = rank.Vector{Root: 1, Cost: 2, Bridge: 3, Port: 4}
	x.Ports[3].State = forwarding
	want := own(x)
	want.Detected, want.Tcn = true, runs(0)
	out := append([]api.Out{tcnBy(0)}, told(&want, 1256, 1)...)
	check(t, "Tcn", tcnOf(1), x, want, out)
}

// TestTcnOfAThousand has a thousand ports: each tells of what it heard itself.
func TestTcnOfAThousand(t *testing.T) {
	for _, x := range []tree.Tree{ledView(1000), aloneView(1000)} {
		for _, place := range []int{0, 1, 3, 500, 999} {
			want, out := plainTcn(x, place)
			checkOnce(t, "Tcn", tcnOf(place), x, want, out)
		}
	}
}
