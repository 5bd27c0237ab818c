package tick_test

import (
	"testing"

	"treeline/api"
	"treeline/rank"
	"treeline/tree"
)

// What is done once a timer ran out.

// Step 1: Hello.

// TestHelloOfTheRoot tells byte by byte what goes out: Now's times, though the
// bridge's own ones are others, and of the Age 0.
func TestHelloOfTheRoot(t *testing.T) {
	x := aloneView(2)
	x.Hello, x.Change = ahead(nowHello), true
	x.Ports[0].Ack = false
	want := own(x)
	want.Hello = runs(0)
	for i := range want.Ports {
		want.Ports[i].Ack, want.Ports[i].Pending, want.Ports[i].Hold = false, false, runs(0)
	}
	check(t, x, want, []api.Out{
		goesOut(0, 0, 0, 0, 0, 0x01, 0x80, 1, 2, 3, 4, 5, 6, 7, 0, 0, 0, 0, 0x80, 1, 2, 3, 4, 5, 6, 7, 0x80, 1, 0, 0, 0x14, 1, 2, 1, 0x0f, 1),
		goesOut(1, 0, 0, 0, 0, 0x81, 0x80, 1, 2, 3, 4, 5, 6, 7, 0, 0, 0, 0, 0x80, 1, 2, 3, 4, 5, 6, 7, 0x80, 2, 0, 0, 0x14, 1, 2, 1, 0x0f, 1),
	})
}

// TestHelloOfAnother has one that isn't the root tell how old what it heard
// is: the second that is over counts, ahead of what it tells.
func TestHelloOfAnother(t *testing.T) {
	for _, since := range []int{0, 1, 1000, 4607, 4608, 4609, 4864} {
		x := ledView(4)
		x.Hello, x.Ports[0].Age = ahead(nowHello), runs(since)
		want := own(x)
		want.Hello, want.Ports[0].Age = runs(0), runs(since+256)
		var out []api.Out
		if since <= 4608 {
			out = told(&want, uint16(since+512), 1, 2)
		}
		check(t, x, want, out)
	}
}

// TestHelloWithHolds lets ports have told just before: all their Holds run out
// by the second at the latest, so that all tell, and none owes.
func TestHelloWithHolds(t *testing.T) {
	for which := range 1 << 4 {
		for owes := range 4 {
			x := aloneView(4)
			x.Hello = ahead(nowHello)
			for i := range x.Ports {
				p := &x.Ports[i]
				p.Ack, p.Pending = owes&1 != 0, owes&2 != 0
				if which>>i&1 != 0 {
					p.Hold = runs(85 * i)
				}
			}
			want := own(x)
			want.Hello = runs(0)
			out := told(&want, 0, 0, 1, 2, 3)
			check(t, x, want, out)
		}
	}
}

// TestHelloOfThoseThatAre has ports that are Disabled, or not designated.
func TestHelloOfThoseThatAre(t *testing.T) {
	for _, state := range anyStates {
		x := aloneView(4)
		x.Hello = ahead(nowHello)
		x.Ports[1].State = state
		x.Ports[2].Held.Bridge--
		x.Ports[3].Held.Port = 0x8001
		want := own(x)
		want.Hello = runs(0)
		out := told(&want, 0, 0)
		if state != disabled {
			out = append(out, told(&want, 0, 1)...)
		}
		check(t, x, want, out)
	}
	x := aloneView(0)
	x.Hello = ahead(nowHello)
	want := own(x)
	want.Hello = runs(0)
	check(t, x, want, nil)
}

// Step 2: Tcn.

// TestTcn lets it run out with a port to the root, and without one; whether a
// change was detected, or is told, is nothing to it, and neither is Hold.
func TestTcn(t *testing.T) {
	for flags := range 8 {
		for _, leads := range []int{-1, 0, 1, 2, 3, 4, 1000, -1000} {
			x := ledView(4)
			x.Detected, x.Change = flags&1 != 0, flags&2 != 0
			x.Tcn, x.RootPort = ahead(mineHello), leads
			if flags&4 != 0 {
				x.Root = me
			}
			x.Ports[2].Pending, x.Ports[2].Hold = false, runs(0)
			want := own(x)
			want.Tcn, want.Ports[2].Hold = runs(0), rests
			var out []api.Out
			if leads >= 0 && leads < 4 {
				out = []api.Out{tcnBy(leads)}
			}
			check(t, x, want, out)
		}
	}
}

// Step 3: Told.

func TestTold(t *testing.T) {
	for flags := range 4 {
		for _, x := range []tree.Tree{aloneView(3), ledView(4), aloneView(0)} {
			x.Detected, x.Change, x.Told = flags&1 != 0, flags&2 != 0, ahead(mineTold)
			want := own(x)
			want.Detected, want.Change, want.Told = false, false, rests
			check(t, x, want, nil)
		}
	}
}

// Step 4: Delay.

// whoTells are what the ports of a view may hold, so that some, or none, of it
// is of the bridge itself.
var whoTells = []struct {
	name   string
	itself bool
	set    func(x *tree.Tree)
}{
	{"nobody", false, func(x *tree.Tree) {}},
	{"the port itself", true, func(x *tree.Tree) { x.Ports[1].Held.Bridge, x.Ports[1].Held.Port = me, x.Ports[1].Id }},
	{"the port, by another number", true, func(x *tree.Tree) { x.Ports[1].Held.Bridge = me }},
	{"the first port", true, func(x *tree.Tree) { x.Ports[0].Held.Bridge = me }},
	{"the last port", true, func(x *tree.Tree) { x.Ports[3].Held.Bridge, x.Ports[3].Held.Port = me, x.Ports[3].Id }},
	{"a port that is off", true, func(x *tree.Tree) { x.Ports[2].Held.Bridge, x.Ports[2].State = me, disabled }},
	{"the root", false, func(x *tree.Tree) { x.Ports[2].Held.Root = me }},
	{"the port's number", false, func(x *tree.Tree) { x.Ports[1].Held.Port = x.Ports[1].Id }},
}

// waiting answers a view whose port 1 has waited long enough, and none of
// whose ports holds anything of the bridge itself.
func waiting(root bool, state int) tree.Tree {
	x := ledView(4)
	if root {
		x = aloneView(4)
	}
	for i := range x.Ports {
		x.Ports[i].Held.Bridge, x.Ports[i].Held.Port = next, 0x8009
	}
	x.Ports[1].State, x.Ports[1].Delay = state, ahead(nowDelay)
	return x
}

// TestDelay has ports of all states, of the root and of others, whose ports
// hold something of the bridge itself, or don't.
func TestDelay(t *testing.T) {
	for _, state := range anyStates {
		for _, who := range whoTells {
			for flags := range 8 {
				root, detected := flags&1 != 0, flags&2 != 0
				x := waiting(root, state)
				who.set(&x)
				x.Detected, x.Change = detected, flags&4 != 0
				want := own(x)
				want.Ports[1].Delay = rests
				var out []api.Out
				switch state {
				case listening:
					want.Ports[1].State, want.Ports[1].Delay = learning, runs(0)
				case learning:
					want.Ports[1].State = forwarding
					if who.itself && root {
						want.Detected, want.Change, want.Told = true, true, runs(0)
					}
					if who.itself && !root && !detected {
						want.Detected, want.Tcn = true, runs(0)
						out = []api.Out{tcnBy(0)}
					}
				}
				check(t, x, want, out)
			}
		}
	}
}

// TestDelayOfSeveral has ports go on by the same second: who isn't the root
// tells of it once.
func TestDelayOfSeveral(t *testing.T) {
	x := ledView(4)
	for i, state := range []int{learning, listening, learning, learning} {
		x.Ports[i].State, x.Ports[i].Delay = state, ahead(nowDelay)
	}
	want := own(x)
	for i, state := range []int{forwarding, learning, forwarding, forwarding} {
		want.Ports[i].State, want.Ports[i].Delay = state, rests
	}
	want.Ports[1].Delay = runs(0)
	want.Detected, want.Tcn = true, runs(0)
	check(t, x, want, []api.Out{tcnBy(0)})
}

// TestDelayWithoutAPortToTheRoot has nobody whom it could tell.
func TestDelayWithoutAPortToTheRoot(t *testing.T) {
	x := waiting(false, learning)
	x.RootPort = -1
	x.Ports[2].Held.Bridge = me
	want := own(x)
	want.Ports[1].State, want.Ports[1].Delay = forwarding, rests
	want.Detected, want.Tcn = true, runs(0)
	check(t, x, want, nil)
}

// Step 5: Age.

// TestAgeOfTheOnlyPortToTheRoot tells byte by byte what goes out of one that
// leads from now on: its own times, and that the tree changes.
func TestAgeOfTheOnlyPortToTheRoot(t *testing.T) {
	x := ledView(2)
	x.Ports[0].Age = ahead(nowMaxAge)
	x.Ports[0].Ack, x.Ports[0].Pending = false, false
	want := own(x)
	leads(&want)
	for i := range want.Ports {
		want.Ports[i].Ack, want.Ports[i].Pending, want.Ports[i].Hold = false, false, runs(0)
	}
	check(t, x, want, []api.Out{
		goesOut(0, 0, 0, 0, 0, 0x01, 0x80, 1, 2, 3, 4, 5, 6, 7, 0, 0, 0, 0, 0x80, 1, 2, 3, 4, 5, 6, 7, 0x80, 1, 0, 0, 0x12, 0x36, 3, 6, 9, 6),
		goesOut(1, 0, 0, 0, 0, 0x81, 0x80, 1, 2, 3, 4, 5, 6, 7, 0, 0, 0, 0, 0x80, 1, 2, 3, 4, 5, 6, 7, 0x80, 2, 0, 0, 0x12, 0x36, 3, 6, 9, 6),
	})
}

// TestAgeOfOneThatLeads has each state of it, and a change detected or told,
// or not: the bridge leads by the same second.
func TestAgeOfOneThatLeads(t *testing.T) {
	for _, state := range anyStates {
		for flags := range 4 {
			x := ledView(3)
			x.Detected, x.Change = flags&1 != 0, flags&2 != 0
			x.Ports[0].State, x.Ports[0].Age = state, ahead(nowMaxAge)
			want := own(x)
			leads(&want)
			places := []int{0, 1, 2}
			if state == disabled {
				places = places[1:]
			}
			out := told(&want, 0, places...)
			check(t, x, want, out)
		}
	}
}

// led answers a view of four ports, of which that at 1 leads to the root 3,
// that at 3 may lead to the root 5, and that at 2 to the root 3 as well; that
// at 0 is designated. None of the three that hold what others tell owes
// anything, and those at 2 and 3 are blocked.
func led() tree.Tree {
	x := aloneView(4)
	x.Root, x.Cost, x.RootPort = 3, 49, 1
	x.Ports[0].Held = rank.Vector{Root: 3, Cost: 49, Bridge: me, Port: x.Ports[0].Id}
	x.Ports[1].Held = rank.Vector{Root: 3, Cost: 10, Bridge: next, Port: 0x8001}
	x.Ports[2].Held = rank.Vector{Root: 3, Cost: 11, Bridge: next, Port: 0x8002}
	x.Ports[3].Held = rank.Vector{Root: 5, Cost: 12, Bridge: next + 1, Port: 0x8003}
	for i := 1; i < 4; i++ {
		x.Ports[i].Ack, x.Ports[i].Pending = false, false
		x.Ports[i].State = blocking
	}
	x.Ports[1].State = forwarding
	return x
}

// heldOfItself is what a port holds of its own, where the view tells that.
func heldOfItself(root api.BridgeId, cost uint32, p api.Port) rank.Vector {
	return rank.Vector{Root: root, Cost: cost, Bridge: me, Port: p.Id}
}

// TestAgeFindsAnotherPort has the port to the root forget it: another one
// leads there, and nobody leads from now on. Now's times stay.
func TestAgeFindsAnotherPort(t *testing.T) {
	x := led()
	x.Ports[1].Age = ahead(nowMaxAge)
	x.Ports[2].Age, x.Ports[3].Age = runs(512), runs(768)
	want := own(x)
	want.Cost, want.RootPort = 70, 2
	want.Ports[0].Held = heldOfItself(3, 70, x.Ports[0])
	rise(&want.Ports[0])
	want.Ports[1].Held, want.Ports[1].Age = heldOfItself(3, 70, x.Ports[1]), rests
	want.Ports[2].Age = runs(768)
	rise(&want.Ports[2])
	want.Ports[3].Held, want.Ports[3].Age = heldOfItself(3, 70, x.Ports[3]), rests
	rise(&want.Ports[3])
	check(t, x, want, nil)
}

// TestAgeFindsAnotherRoot has the only port that tells of a root forget it,
// and that at 3 lead to another one. Times and changes are as they were.
func TestAgeFindsAnotherRoot(t *testing.T) {
	x := led()
	x.Ports[1].Age, x.Ports[3].State = ahead(nowMaxAge), learning
	x.Ports[2].Held = heldOfItself(3, 49, x.Ports[2])
	want := own(x)
	want.Root, want.Cost, want.RootPort = 5, 91, 3
	for i := range 3 {
		p := &want.Ports[i]
		p.Held, p.Age = heldOfItself(5, 91, *p), rests
		rise(p)
	}
	check(t, x, want, nil)
}

// TestAgePortByPort has the only two that tell of a root forget it by the same
// second. While the second of them still leads there, that at 3 tells its LAN
// so, and what it held of another root is gone: the bridge leads.
func TestAgePortByPort(t *testing.T) {
	x := led()
	x.Ports[1].Age, x.Ports[2].Age = ahead(nowMaxAge), runs(longest)
	want := own(x)
	leads(&want)
	out := told(&want, 0, 0, 1, 2, 3)
	check(t, x, want, out)
}

// TestAgeOfAnotherPort has one that neither leads nor is designated: it is
// from now on, and nothing else is otherwise.
func TestAgeOfAnotherPort(t *testing.T) {
	for _, detected := range []bool{false, true} {
		x := ledView(4)
		x.Detected = detected
		x.Ports[0].State, x.Ports[0].Ack, x.Ports[0].Pending = forwarding, false, false
		x.Ports[0].Age, x.Ports[3].Age = runs(300), ahead(nowMaxAge)
		x.Ports[3].Ack, x.Ports[3].Pending = false, false
		want := own(x)
		want.Ports[0].Age, want.Ports[3].Age = runs(556), rests
		want.Ports[3].Held = heldOfItself(other, 77, x.Ports[3])
		rise(&want.Ports[3])
		check(t, x, want, nil)
	}
}

// TestAgeOfTheRootBefore has one that took itself for the root ahead of it,
// and does still: it doesn't lead anew. What a port had of it by a lesser
// bridge, or by its own, is forgotten.
func TestAgeOfTheRootBefore(t *testing.T) {
	for _, held := range []rank.Vector{
		{Root: me, Cost: 0, Bridge: me - 1, Port: 0x8003},
		{Root: me, Cost: 0, Bridge: me, Port: 0x8001},
		{Root: me, Cost: 0, Bridge: me, Port: 0x8002},
		{Root: me + 1, Cost: 3, Bridge: me + 1, Port: 0x8007},
	} {
		x := aloneView(3)
		x.Ports[0].State = blocking
		x.Ports[1].Held, x.Ports[1].State, x.Ports[1].Age = held, blocking, ahead(nowMaxAge)
		want := own(x)
		want.Ports[1].Held, want.Ports[1].Age = heldOfItself(me, 0, x.Ports[1]), rests
		for i := range want.Ports {
			rise(&want.Ports[i])
		}
		check(t, x, want, nil)
	}
}

// TestAgeWhereSomethingIsLost has a view that hadn't settled: a port that
// forwarded is lost when it does. The root tells of it, any other one tells
// the root.
func TestAgeWhereSomethingIsLost(t *testing.T) {
	x := ledView(4)
	x.Ports[3].State = forwarding
	x.Ports[2].Age, x.Ports[2].State = ahead(nowMaxAge), forwarding
	want := own(x)
	want.Ports[0].Ack, want.Ports[0].Pending = false, false
	want.Ports[3].Ack, want.Ports[3].Pending, want.Ports[3].State = false, false, blocking
	want.Ports[2].Age = rests
	rise(&want.Ports[0])
	want.Detected, want.Tcn = true, runs(0)
	check(t, x, want, []api.Out{tcnBy(0)})
}

// TestAgeOfABridgeThatWasntTheRoot has views that hadn't settled. One takes
// itself for the root only behind the first of two ports' turns, and leads by
// then; one ceases to by the first and leads by the second; one ceases to.
func TestAgeOfABridgeThatWasntTheRoot(t *testing.T) {
	x := aloneView(3)
	x.Ports[0].Age, x.Ports[1].Age = ahead(nowMaxAge), ahead(nowMaxAge)
	x.Root, x.Cost, x.RootPort = other, 5, 2
	want := own(x)
	leads(&want)
	out := told(&want, 0, 0, 1, 2)
	check(t, x, want, out)

	x = ledView(3)
	x.Root, x.Cost, x.RootPort = me, 0, -1
	x.Ports[0].Held, x.Ports[1].Held = heldOfItself(me, 0, x.Ports[0]), x.Ports[0].Held
	x.Ports[0].Age, x.Ports[1].Age = ahead(nowMaxAge), ahead(nowMaxAge)
	x.Ports[1].Ack, x.Ports[1].Pending = false, false
	want = own(x)
	leads(&want)
	out = told(&want, 0, 0, 1, 2)
	check(t, x, want, out)

	x.Ports[1].Age = rests
	want = own(x)
	want.Root, want.Cost, want.RootPort = other, 97, 1
	for _, i := range []int{0, 2} {
		p := &want.Ports[i]
		p.Held, p.Age = heldOfItself(other, 97, *p), rests
		rise(p)
	}
	check(t, x, want, nil)
}

// TestAgeOfPortsThatAreOff has ports that are Disabled: they become what the
// view tells, and neither tell it nor rise.
func TestAgeOfPortsThatAreOff(t *testing.T) {
	x := ledView(3)
	x.Ports[0].State, x.Ports[1].State = disabled, disabled
	x.Ports[0].Age, x.Ports[1].Age = ahead(nowMaxAge), ahead(nowMaxAge)
	want := own(x)
	leads(&want)
	out := told(&want, 0, 2)
	check(t, x, want, out)
}

// Step 6: Hold.

// TestHold has ports that owe a configuration or an acknowledgement, or don't,
// in each state, designated or not.
func TestHold(t *testing.T) {
	for _, state := range anyStates {
		for flags := range 16 {
			x := ledView(4)
			if flags&1 != 0 {
				x = aloneView(4)
			}
			p := &x.Ports[1]
			p.State, p.Hold = state, runs(0)
			p.Pending, p.Ack = flags&2 != 0, flags&4 != 0
			if flags&8 != 0 {
				p.Held.Bridge = next
			}
			want := own(x)
			want.Ports[1].Hold = rests
			var out []api.Out
			switch {
			case flags&2 != 0 && flags&1 != 0:
				out = told(&want, 0, 1)
			case flags&2 != 0:
				out = told(&want, 256, 1)
			}
			check(t, x, want, out)
		}
	}
}

// TestHoldOfWhatIsTooOld owes it on, and Hold rests.
func TestHoldOfWhatIsTooOld(t *testing.T) {
	for _, since := range []int{4607, 4608, 4609, 4864} {
		x := ledView(3)
		x.Ports[1].Hold, x.Ports[2].Hold, x.Ports[0].Age = runs(0), runs(255), runs(since)
		want := own(x)
		want.Ports[1].Hold, want.Ports[2].Hold, want.Ports[0].Age = rests, rests, runs(since+256)
		var out []api.Out
		if since <= 4608 {
			out = told(&want, uint16(since+512), 1, 2)
		}
		check(t, x, want, out)
	}
	x := aloneView(2)
	x.Now.MaxAge = 0
	x.Ports[0].Hold = runs(9)
	want := own(x)
	want.Ports[0].Hold = rests
	check(t, x, want, nil)
}

// TestHoldOfSome has each of four ports' Holds run or rest: those tell whose
// Hold ran out, of those that owe it.
func TestHoldOfSome(t *testing.T) {
	for which := range 1 << 8 {
		x := aloneView(4)
		want := own(x)
		var places []int
		for i := range x.Ports {
			p := &x.Ports[i]
			p.Pending = which>>i&1 != 0
			want.Ports[i].Pending = p.Pending
			if which>>(4+i)&1 != 0 {
				p.Hold = runs(80 * i)
				if p.Pending {
					places = append(places, i)
				}
			}
		}
		out := told(&want, 0, places...)
		check(t, x, want, out)
	}
}
