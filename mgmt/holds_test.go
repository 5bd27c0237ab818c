package mgmt_test

import (
	"math/rand/v2"
	"testing"

	"treeline/api"
	"treeline/heard"
	"treeline/mgmt"
	"treeline/send"
	"treeline/tick"
	"treeline/tree"
)

// 17.4.

// checkOff wants a port to be switched off: neither does it lead to the root,
// nor owe anything that it might tell, nor does anything go out by it.
func checkOff(t *testing.T, x tree.Tree, off int, out []api.Out) {
	t.Helper()
	p := x.Ports[off]
	if p.State != disabled || x.RootPort == off {
		t.Fatalf("the port %d, which is off, is of the state %d, or leads to the root:\n%+v", off, p.State, x)
	}
	if p.Ack || p.Pending || p.Age != rests || p.Delay != rests || p.Hold != rests {
		t.Fatalf("the port %d, which is off, owes something, or a timer of its runs:\n%+v", off, x)
	}
	for _, o := range out {
		if o.Port == off {
			t.Fatalf("by the port %d, which is off, there goes out %x:\n%+v", off, o.Frame.Data, x)
		}
	}
}

// checkDeaf lets a port that is switched off hear this and that: nothing happens.
func checkDeaf(t *testing.T, draw *rand.Rand, x tree.Tree, off int) {
	t.Helper()
	best := api.Bpdu{Root: 0, Cost: 0, Bridge: 0, Port: 0, MaxAge: 5120, Hello: 512, Delay: 3840}
	for _, c := range []api.Bpdu{best, anyTelling(draw, x, off)} {
		y, out := heard.Config(x, off, c)
		if !same(y, x) || len(out) != 0 {
			t.Fatalf("the port %d, which is off, hears %+v:\n%+v becomes\n%+v, there goes out %x", off, c, x, y, out)
		}
	}
	y, out := heard.Tcn(x, off)
	if !same(y, x) || len(out) != 0 {
		t.Fatalf("the port %d, which is off, hears a TCN:\n%+v becomes\n%+v, there goes out %x", off, x, y, out)
	}
	for _, b := range [][]byte{plainPut(best), plainPut(api.Bpdu{Tcn: true}), nil, anyBytes(draw, x, off)} {
		y, out, e := heard.Bytes(x, off, b)
		if !same(y, x) || len(out) != 0 || e != errNone {
			t.Fatalf("the port %d, which is off, hears %x:\n%+v becomes\n%+v, %x, the error %d", off, b, x, y, out, e)
		}
	}
}

// changed answers the view behind one of the layer's calls, but none by which
// the port at off is switched on.
func changed(draw *rand.Rand, x tree.Tree, off int) (tree.Tree, []api.Out) {
	place := anyPlace(draw, x)
	switch draw.IntN(5) {
	case 0:
		return mgmt.Off(x, place)
	case 1:
		x, out, _ := mgmt.Cost(x, place, anyCost(draw))
		return x, out
	case 2:
		return mgmt.Prio(x, anyPrio(draw))
	}
	if place == off {
		place++
	}
	return mgmt.On(x, place)
}

// checkStaysOff lets so many things befall a view of which a port was switched
// off: it stays so, whatever it would hear, or tell.
func checkStaysOff(t *testing.T, draw *rand.Rand, x tree.Tree, off, things int) {
	t.Helper()
	for range things {
		checkOff(t, x, off, nil)
		checkDeaf(t, draw, x, off)
		y, all := send.All(x)
		checkOff(t, y, off, all)
		checkOff(t, x, off, send.Tcn(x))
		y, out := goesOn(draw, x)
		if draw.IntN(3) == 0 {
			y, out = changed(draw, x, off)
		}
		checkOff(t, y, off, out)
		x = y
	}
}

// checkSwitchedOff switches off a port of a view that has one, whatever it
// was, and lets so many things befall the view.
func checkSwitchedOff(t *testing.T, draw *rand.Rand, x tree.Tree, things int) {
	t.Helper()
	off := draw.IntN(len(x.Ports))
	x = own(x)
	if x.Ports[off].State == disabled {
		x.Ports[off].State = blocking + draw.IntN(4)
	}
	x, out := mgmt.Off(x, off)
	checkOff(t, x, off, out)
	checkStaysOff(t, draw, x, off, things)
}

func TestWhatIsOffStaysOff(t *testing.T) {
	draw := rand.New(rand.NewPCG(17, 4))
	for range 6000 {
		checkSwitchedOff(t, draw, anyView(draw, 1+draw.IntN(5)), 25)
	}
}

// TestOffOfEachIsSilent has views in which all that may go out does, at each
// place: as a port that leads, one that is designated, and one that is blocked.
func TestOffOfEachIsSilent(t *testing.T) {
	for _, x := range []tree.Tree{rootView(4), ledView(4)} {
		for off := range x.Ports {
			for _, state := range anyStates[1:] {
				x := own(x)
				x.Ports[off].State = state
				y, out := mgmt.Off(x, off)
				checkOff(t, y, off, out)
				for range 60 {
					y, out = tick.Tick(y)
					checkOff(t, y, off, out)
				}
			}
		}
	}
}

// TestWhatIsOffHearsOnceItIsOn has a port that was off hear of a better root:
// while it is off nothing happens, once it is on it leads there.
func TestWhatIsOffHearsOnceItIsOn(t *testing.T) {
	better := api.Bpdu{Root: 3, Cost: 4, Bridge: 5, Port: 6, MaxAge: 5120, Hello: 512, Delay: 3840}
	x, _ := mgmt.Off(ledView(4), 2)
	if y, out := heard.Config(x, 2, better); !same(x, y) || len(out) != 0 {
		t.Fatalf("a port that is off hears: %+v", y)
	}
	x, _ = mgmt.On(x, 2)
	x, out := heard.Config(x, 2, better)
	if x.Root != 3 || x.Cost != 63 || x.RootPort != 2 || x.Ports[2].State != listening || len(out) == 0 {
		t.Fatalf("a port that is on doesn't hear: %+v, %x", x, out)
	}
}
