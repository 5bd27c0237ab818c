package mgmt_test

import (
	"math"
	"testing"

	"treeline/api"
	"treeline/rank"
	"treeline/tree"
)

// 17.3.

// numberOf is my bridge's number of a priority.
func numberOf(prio uint16) api.BridgeId {
	return api.BridgeId(prio)<<48 + mine
}

// somePrios are the least and the greatest one, my own and those beside it,
// the root's and those beside it, and others.
var somePrios = []uint16{0, 1, 0x00ff, 0x0100, 0x3fff, 0x4000, 0x4001, 0x7fff, 0x8000, 0x8001, 0x8002, 0x9000, 0xff00, 0xfffe, 0xffff}

// renumbered lets a view be that of the bridge of another priority, of whose
// ports those at these places were designated.
func renumbered(x *tree.Tree, prio uint16, places ...int) {
	x.Own = numberOf(prio)
	for _, i := range places {
		x.Ports[i].Held.Bridge = x.Own
	}
}

// TestPrioOfTheRoot has a bridge that nobody else is heard by: it is the root
// by each number, its ports tell that, and it needn't lead from then on.
func TestPrioOfTheRoot(t *testing.T) {
	for _, prio := range somePrios {
		for _, hello := range someTimers() {
			for flags := range 4 {
				x := rootView(4)
				x.Hello, x.Detected, x.Change = hello, flags&1 != 0, flags&2 != 0
				rest(&x, 3, disabled)
				want := own(x)
				want.Own, want.Root = numberOf(prio), numberOf(prio)
				tellsAll(&want)
				check(t, "Prio", prioOf(prio), x, want, nil)
			}
		}
	}
}

// TestPrioOfNoPorts has a bridge without a port be the root by each number; it
// is its address that stays.
func TestPrioOfNoPorts(t *testing.T) {
	for _, prio := range somePrios {
		for _, addr := range []api.BridgeId{0, 1, mine, 1<<48 - 1} {
			x := rootView(0)
			x.Own, x.Root = 0x1234<<48+addr, 0x1234<<48+addr
			want := own(x)
			want.Own = api.BridgeId(prio)<<48 + addr
			want.Root = want.Own
			check(t, "Prio", prioOf(prio), x, want, nil)
		}
		want := tree.Tree{Own: api.BridgeId(prio) << 48, Root: api.BridgeId(prio) << 48, RootPort: -1}
		check(t, "Prio", prioOf(prio), tree.Tree{}, want, nil)
	}
}

// TestPrioOfOneThatStaysLed has another bridge be the root ahead of it and
// behind it: designated ports tell by the new number, others hold what they
// held, nothing goes out, and all timers go on.
func TestPrioOfOneThatStaysLed(t *testing.T) {
	for _, prio := range somePrios {
		if prio < 0x4000 {
			continue
		}
		for _, hello := range someTimers() {
			x := ledView(4)
			x.Hello = hello
			want := own(x)
			renumbered(&want, prio, 1, 2)
			check(t, "Prio", prioOf(prio), x, want, nil)
		}
	}
}

// TestPrioOfOneThatBecomesTheRoot has the number be less than the root's: the
// bridge leads from then on, by its own times, and all its ports are
// designated. What goes out is written byte by byte.
func TestPrioOfOneThatBecomesTheRoot(t *testing.T) {
	for _, hello := range someTimers() {
		for flags := range 4 {
			x := ledView(4)
			x.Hello, x.Detected, x.Change = hello, flags&1 != 0, flags&2 != 0
			x.Ports[0].Hold, x.Ports[2].Hold = rests, runs(5)
			x.Ports[2].Pending = false
			want := own(x)
			renumbered(&want, 0x0a0b)
			leads(&want)
			want.Ports[0].Age, want.Ports[3].Age = rests, rests
			rise(&want, 3)
			for _, i := range []int{0, 1} {
				p := &want.Ports[i]
				p.Ack, p.Pending, p.Hold = false, false, runs(0)
			}
			want.Ports[2].Pending, want.Ports[3].Pending = true, true
			check(t, "Prio", prioOf(0x0a0b), x, want, []api.Out{
				goesOut(0, 0, 0, 0, 0, 0x01, 0x0a, 0x0b, 2, 3, 4, 5, 6, 7, 0, 0, 0, 0, 0x0a, 0x0b, 2, 3, 4, 5, 6, 7, 0x80, 1, 0, 0, 0x12, 0x36, 3, 6, 9, 6),
				goesOut(1, 0, 0, 0, 0, 0x81, 0x0a, 0x0b, 2, 3, 4, 5, 6, 7, 0, 0, 0, 0, 0x0a, 0x0b, 2, 3, 4, 5, 6, 7, 0x80, 2, 0, 0, 0x12, 0x36, 3, 6, 9, 6),
			})
		}
	}
}

// TestPrioAtTheEdgeOfTheRoots has the root's address be less than mine, or
// greater, or mine: of the same priority it is the address that decides.
func TestPrioAtTheEdgeOfTheRoots(t *testing.T) {
	for _, c := range []struct {
		root  api.BridgeId
		prio  uint16
		leads bool
	}{
		{other, 0x3fff, true}, {other, 0x4000, false}, {other, 0x4001, false},
		{numberOf(0x4000) - 1, 0x3fff, true}, {numberOf(0x4000) - 1, 0x4000, false},
		{numberOf(0x4000), 0x3fff, true}, {numberOf(0x4000), 0x4000, true}, {numberOf(0x4000), 0x4001, false},
		{numberOf(0x4000) + 1, 0x4000, true}, {numberOf(0x4000) + 1, 0x4001, false},
		{0, 0, false}, {1, 0, false}, {mine - 1, 0, false}, {mine + 1, 0, true},
	} {
		x := ledView(3)
		x.Root, x.Ports[0].Held.Root = c.root, c.root
		tells(&x, 1, 2)
		want := own(x)
		renumbered(&want, c.prio, 1, 2)
		var out []api.Out
		if c.leads {
			leads(&want)
			want.Ports[0].Age = rests
			want.Ports[0].Pending = true
			out = told(&want, 1, 2)
		}
		check(t, "Prio", prioOf(c.prio), x, want, out)
	}
}

// TestPrioOfOneThatIsTheRootNoMore has a port that holds what another one of
// the bridge told by its former number, and one that holds of another root:
// by a number that is greater one of them leads, and Hello rests. Told and Tcn
// go on, whatever was detected, and nothing goes out.
func TestPrioOfOneThatIsTheRootNoMore(t *testing.T) {
	for _, hello := range someTimers() {
		for flags := range 4 {
			x := rootView(3)
			x.Hello, x.Detected, x.Change = hello, flags&1 != 0, flags&2 != 0
			x.Ports[2].State, x.Ports[2].Held.Port = blocking, 0x8001
			x.Ports[2].Age = runs(66)
			want := own(x)
			renumbered(&want, 0x8002)
			want.Hello, want.Cost, want.RootPort = rests, 59, 2
			tells(&want, 0, 1)
			want.Ports[2].Ack, want.Ports[2].Pending = false, false
			rise(&want, 2)
			check(t, "Prio", prioOf(0x8002), x, want, nil)

			x.Ports[2].Held = rank.Vector{Root: me + 1, Cost: 7, Bridge: next, Port: 0x8009}
			want = own(x)
			renumbered(&want, 0x8002)
			want.Hello, want.Root, want.Cost, want.RootPort = rests, me+1, 66, 2
			tells(&want, 0, 1)
			want.Ports[2].Ack, want.Ports[2].Pending = false, false
			rise(&want, 2)
			check(t, "Prio", prioOf(0x8002), x, want, nil)
		}
	}
}

// TestPrioThatLosesAPort has a view of two ports that hear another one, of
// which that is lost that doesn't lead. The bridge is the root no more.
func TestPrioThatLosesAPort(t *testing.T) {
	for _, state := range []int{disabled, blocking, listening, learning, forwarding} {
		for _, detected := range []bool{false, true} {
			x := rootView(3)
			x.Detected = detected
			for _, i := range []int{1, 2} {
				x.Ports[i].Held = rank.Vector{Root: me, Cost: 0, Bridge: me, Port: 0x8001}
			}
			x.Ports[2].State = state
			want := own(x)
			renumbered(&want, 0xffff)
			want.Hello, want.Cost, want.RootPort = rests, 39, 1
			tells(&want, 0)
			for _, i := range []int{1, 2} {
				want.Ports[i].Ack, want.Ports[i].Pending = false, false
			}
			if state != disabled && state != blocking {
				blocked(&want, 2)
			}
			var out []api.Out
			if (state == learning || state == forwarding) && !detected {
				want.Detected, want.Tcn = true, runs(0)
				out = []api.Out{tcnBy(1)}
			}
			check(t, "Prio", prioOf(0xffff), x, want, out)
		}
	}
}

// TestPrioOfOneThatHearsItself has a port that holds what another one of the
// bridge told by its former number: by one that is less it is designated.
func TestPrioOfOneThatHearsItself(t *testing.T) {
	x := rootView(3)
	x.Ports[2].Held.Port = 0x8001
	blocked(&x, 2)
	x.Ports[2].Age = runs(66)
	want := own(x)
	want.Own, want.Root = numberOf(0x8000), numberOf(0x8000)
	tellsAll(&want)
	want.Ports[2].Age = rests
	rise(&want, 2)
	check(t, "Prio", prioOf(0x8000), x, want, nil)
}

// TestPrioAgainstAnEqual has a LAN be told the same by another bridge: who is
// the lesser one tells it. One that was designated stays it by any number.
func TestPrioAgainstAnEqual(t *testing.T) {
	for _, prio := range []uint16{0x4001, 0x6fff, 0x7000, 0x7001, 0x8000, 0x8001, 0xffff} {
		for _, rival := range []api.BridgeId{numberOf(0x7000) - 1, numberOf(0x7000), numberOf(0x7000) + 1} {
			x := ledView(4)
			x.Ports[3].Held = rank.Vector{Root: other, Cost: 77, Bridge: rival, Port: 0x8005}
			want := own(x)
			renumbered(&want, prio, 1, 2)
			if want.Own <= rival {
				tells(&want, 3)
				want.Ports[3].Age = rests
				rise(&want, 3)
			}
			check(t, "Prio", prioOf(prio), x, want, nil)
		}
	}
}

// TestPrioRenumbersNoneBut has ports that hold Own as Bridge, but not their
// own number, and the other way round: what they hold stays.
func TestPrioRenumbersNoneBut(t *testing.T) {
	for _, held := range []rank.Vector{
		{Root: other, Cost: 76, Bridge: me, Port: 0x8001},
		{Root: other, Cost: 76, Bridge: me, Port: 0x0004},
		{Root: other, Cost: 76, Bridge: me + 1, Port: 0x8004},
		{Root: other, Cost: 76, Bridge: mine, Port: 0x8004},
		{Root: other, Cost: 76, Bridge: other, Port: 0x8004},
	} {
		for _, prio := range somePrios {
			if prio < 0x4000 {
				continue
			}
			x := ledView(4)
			x.Ports[3].Held = held
			want := own(x)
			renumbered(&want, prio, 1, 2)
			check(t, "Prio", prioOf(prio), x, want, nil)
		}
	}
}

// TestPrioThatIsHeldAlready has a port hold what was told by the number that
// the bridge has from then on, and by its own one: it is designated by then.
func TestPrioThatIsHeldAlready(t *testing.T) {
	x := ledView(4)
	x.Ports[3].Held = rank.Vector{Root: other, Cost: 76, Bridge: numberOf(0x5000), Port: 0x8004}
	want := own(x)
	renumbered(&want, 0x5000, 1, 2)
	tells(&want, 3)
	want.Ports[3].Age = rests
	rise(&want, 3)
	check(t, "Prio", prioOf(0x5000), x, want, nil)
}

// TestPrioOfAPortThatIsOff has it hold what the bridge tells by its new number.
func TestPrioOfAPortThatIsOff(t *testing.T) {
	for _, prio := range []uint16{0x4000, 0x5000, 0x8000, 0x8001, 0x8002, 0x9000, 0xffff} {
		x := ledView(4)
		rest(&x, 1, disabled)
		want := own(x)
		renumbered(&want, prio, 1, 2)
		check(t, "Prio", prioOf(prio), x, want, nil)
	}
}

// TestPrioThatStays settles the view all the same.
func TestPrioThatStays(t *testing.T) {
	for _, x := range []tree.Tree{rootView(4), ledView(4)} {
		check(t, "Prio", prioOf(0x8001), x, x, nil)
		y := unsettled(x)
		want, out := plainPrio(y, 0x8001)
		if want.Own != me || want.RootPort < 0 {
			t.Fatalf("Prio should be\n%+v", want)
		}
		check(t, "Prio", prioOf(0x8001), y, want, out)
	}
	// One that isn't settled, and leads from then on; and the other way round.
	x := rootView(2)
	x.Root, x.Cost, x.RootPort = other, 77, 0
	want := own(x)
	leads(&want)
	out := told(&want, 0, 1)
	check(t, "Prio", prioOf(0x8001), x, want, out)
	x = ledView(3)
	x.Root, x.Cost, x.RootPort = me, 0, -1
	want = ledView(3)
	want.Hello = rests
	check(t, "Prio", prioOf(0x8001), x, want, nil)
}

// TestPrioOfOneThatTookItsNumberForTheRoots has a view that knows as the root
// what is the bridge's own number from then on: ahead of it the bridge didn't
// take itself for the root, so it leads from then on.
func TestPrioOfOneThatTookItsNumberForTheRoots(t *testing.T) {
	x := rootView(2)
	x.Root, x.Cost = numberOf(3), 9
	tellsAll(&x)
	want := own(x)
	renumbered(&want, 3)
	leads(&want)
	out := told(&want, 0, 1)
	check(t, "Prio", prioOf(3), x, want, out)
}

// TestPrioOfAnyAddress keeps each bit of the address, and none of the priority.
func TestPrioOfAnyAddress(t *testing.T) {
	for bit := range 64 {
		for _, id := range []uint64{1 << bit, math.MaxUint64 ^ 1<<bit} {
			x := rootView(1)
			x.Own, x.Root = api.BridgeId(id), api.BridgeId(id)
			tellsAll(&x)
			want := own(x)
			want.Own = api.BridgeId(0xabcd<<48 + id%(1<<48))
			want.Root = want.Own
			tellsAll(&want)
			check(t, "Prio", prioOf(0xabcd), x, want, nil)
		}
	}
}
