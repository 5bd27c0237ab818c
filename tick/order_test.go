package tick_test

import (
	"testing"

	"treeline/api"
	"treeline/rank"
	"treeline/tree"
)

// Several timers that run out by the same second.

// TestAllOfOneThatLeads has all that may run out do so of a bridge that leads
// from then on. By Hello its ports tell the root that it knew, of an Age that
// rests by then; a TCN goes out by Tcn, and one as a port goes on, since by
// Told no change is detected; leading, only that port tells so that told
// nothing yet, and the others owe it till the next second.
func TestAllOfOneThatLeads(t *testing.T) {
	x := ledView(4)
	x.Hello, x.Tcn, x.Told = ahead(nowHello), ahead(mineHello), ahead(mineTold)
	x.Detected, x.Change = true, true
	x.Ports[0].Ack, x.Ports[0].Pending = false, false
	x.Ports[0].Age, x.Ports[0].State = ahead(nowMaxAge), forwarding
	x.Ports[1].State, x.Ports[1].Delay = learning, ahead(nowDelay)
	x.Ports[1].Hold, x.Ports[2].Hold = runs(0), runs(100)
	x.Ports[3].Held = heldOfItself(other, 77, x.Ports[3])
	want := own(x)
	out := append(told(&want, 256, 1, 2, 3), tcnBy(0), tcnBy(0))
	want.Ports[1].State, want.Ports[1].Delay = forwarding, rests
	leads(&want)
	out = append(out, told(&want, 0, 0)...)
	for i := 1; i < 4; i++ {
		want.Ports[i].Pending = true
	}
	check(t, x, want, out)
}

// TestAllOfOneThatIsLed has one that isn't the root tell by Hello, by Tcn, and
// as a port goes on, in that order; a port that owed tells by Hello already,
// one that isn't designated tells what it owes last.
func TestAllOfOneThatIsLed(t *testing.T) {
	x := ledView(4)
	x.Hello, x.Tcn, x.Told = ahead(nowHello), ahead(mineHello), ahead(mineTold)
	x.Detected, x.Change = true, true
	x.Ports[0].Age, x.Ports[0].Hold = runs(256), runs(0)
	x.Ports[1].State, x.Ports[1].Delay, x.Ports[1].Hold = learning, ahead(nowDelay), runs(0)
	x.Ports[2].Hold = rests
	want := own(x)
	want.Hello, want.Tcn, want.Told = runs(0), runs(0), rests
	want.Ports[0].Age = runs(512)
	out := told(&want, 768, 1, 2)
	want.Detected, want.Change = true, false
	want.Ports[1].State, want.Ports[1].Delay = forwarding, rests
	out = append(out, tcnBy(0), tcnBy(0))
	out = append(out, told(&want, 768, 0)...)
	check(t, x, want, out)
}

// TestDelaysAheadOfAges has a port go on ahead of one that forgets, though it
// stands behind it: the TCN goes to the root that is forgotten.
func TestDelaysAheadOfAges(t *testing.T) {
	x := ledView(3)
	x.Ports[0].Age = ahead(nowMaxAge)
	x.Ports[0].Ack, x.Ports[0].Pending = false, false
	x.Ports[2].State, x.Ports[2].Delay = learning, ahead(nowDelay)
	want := own(x)
	want.Ports[2].State, want.Ports[2].Delay = forwarding, rests
	leads(&want)
	out := append([]api.Out{tcnBy(0)}, told(&want, 0, 0, 1, 2)...)
	check(t, x, want, out)
}

// TestAgesAheadOfHolds has a port owe what the bridge tells behind it: it is
// told with the others', once.
func TestAgesAheadOfHolds(t *testing.T) {
	x := ledView(3)
	x.Ports[0].Age = ahead(nowMaxAge)
	x.Ports[1].Hold = runs(0)
	want := own(x)
	leads(&want)
	out := told(&want, 0, 0, 1, 2)
	check(t, x, want, out)
}

// TestHoldsOfWhatIsNoLongerOwed has ports that settling relieves of what they owed.
func TestHoldsOfWhatIsNoLongerOwed(t *testing.T) {
	x := led()
	x.Ports[1].Age = ahead(nowMaxAge)
	x.Ports[2].Pending, x.Ports[2].Ack, x.Ports[2].Hold = true, true, runs(0)
	want, out := plainTick(x)
	if want.Ports[2].Pending || want.Ports[2].Hold.On || len(out) != 0 {
		t.Fatalf("Tick should be\n%+v, and there go out %x", want, out)
	}
	check(t, x, want, out)
}

// TestHoldsTellWhatIsTrueByThen has a port owe a configuration, which tells of
// the root that the bridge found by the same second, and that no change is told.
func TestHoldsTellWhatIsTrueByThen(t *testing.T) {
	x := led()
	x.Detected, x.Change, x.Told = true, true, ahead(mineTold)
	x.Ports[1].Age, x.Ports[2].Age = ahead(nowMaxAge), runs(2000)
	x.Ports[0].Hold, x.Ports[0].State = runs(17), listening
	want, _ := plainTick(with(x, func(x *tree.Tree) { x.Ports[0].Pending = false }))
	if want.RootPort != 2 || want.Change || want.Ports[0].Hold.On {
		t.Fatalf("Tick should be\n%+v", want)
	}
	check(t, x, with(want, func(want *tree.Tree) { told(want, 0, 0) }), []api.Out{
		goesOut(0, 0, 0, 0, 0, 0x80, 0, 0, 0, 0, 0, 0, 0, 3, 0, 0, 0, 70, 0x80, 1, 2, 3, 4, 5, 6, 7, 0x80, 1, 0x09, 0xd0, 0x14, 1, 2, 1, 0x0f, 1),
	})
}

// TestStartedMeanwhile has limits of 0: all that one step starts runs from 0
// behind the second, and what ran out has done so once.
func TestStartedMeanwhile(t *testing.T) {
	x := ledView(4)
	x.Now.Hello, x.Now.Delay, x.Mine = 0, 0, tree.Times{MaxAge: 1}
	x.Hello, x.Tcn = runs(0), runs(0)
	for i := range x.Ports {
		x.Ports[i].State, x.Ports[i].Delay, x.Ports[i].Hold = listening, runs(0), runs(0)
	}
	want := own(x)
	out := told(&want, 256, 1, 2)
	out = append(out, tcnBy(0))
	out = append(out, told(&want, 256, 0, 3)...)
	for i := range want.Ports {
		want.Ports[i].State = learning
	}
	check(t, x, want, out)

	// One more second: Hold ran from 0, so that all may tell; the TCN that goes
	// out as a port goes on is one besides.
	x = want
	want = own(x)
	out = append(told(&want, 256, 1, 2), tcnBy(0), tcnBy(0))
	for i := range want.Ports {
		want.Ports[i].State, want.Ports[i].Delay = forwarding, rests
	}
	want.Detected = true
	want.Ports[0].Hold, want.Ports[3].Hold = rests, rests
	check(t, x, want, out)
}

// TestToldStartedMeanwhile has Told run out as a port of the root goes on: a
// change is told anew, for the whole time.
func TestToldStartedMeanwhile(t *testing.T) {
	for _, mine := range []tree.Times{{MaxAge: mineMaxAge, Delay: mineDelay}, {}, {MaxAge: -9}} {
		x := aloneView(3)
		x.Mine = mine
		x.Detected, x.Change, x.Told = true, true, runs(longest)
		x.Ports[2].State, x.Ports[2].Delay = learning, ahead(nowDelay)
		want := own(x)
		want.Told = runs(0)
		want.Ports[2].State, want.Ports[2].Delay = forwarding, rests
		check(t, x, want, nil)
	}
}

// TestStartedAnewByLeading has Hello and Tcn, run out and not, of a bridge
// that leads from now on: Hello runs from 0, Tcn rests, Told runs from 0.
func TestStartedAnewByLeading(t *testing.T) {
	timers := func(limit int) []api.Timer {
		return []api.Timer{rests, runs(0), ahead(limit - 1), ahead(limit), runs(longest)}
	}
	for _, hello := range timers(nowHello) {
		tells := hello.On && hello.Value+256 >= nowHello
		for _, running := range timers(mineHello) {
			for _, since := range timers(mineTold) {
				x := ledView(2)
				x.Hello, x.Tcn, x.Told = hello, running, since
				x.Ports[0].Age = ahead(nowMaxAge)
				x.Ports[0].Ack, x.Ports[0].Pending = false, false
				want := own(x)
				var out []api.Out
				if tells {
					out = told(&want, 256, 1)
				}
				if running.On && running.Value+256 >= mineHello {
					out = append(out, tcnBy(0))
				}
				leads(&want)
				if tells {
					out = append(out, told(&want, 0, 0)...)
					want.Ports[1].Pending = true
				} else {
					out = append(out, told(&want, 0, 0, 1)...)
				}
				check(t, x, want, out)
			}
		}
	}
}

// TestTimesThatLeadingChanges has a bridge lead by its own times, by which
// other timers would, or wouldn't, have run out: those count that held when
// the second was over.
func TestTimesThatLeadingChanges(t *testing.T) {
	for _, mine := range []int{0, 256, 65535} {
		x := ledView(4)
		x.Mine = tree.Times{MaxAge: mine + 1, Hello: mine, Delay: mine}
		x.Hello = ahead(nowHello - 1)
		x.Ports[0].Age = ahead(nowMaxAge)
		x.Ports[1].Delay = ahead(nowDelay - 1)
		x.Ports[2].Delay = ahead(nowDelay)
		x.Ports[2].State = listening
		x.Ports[3].Held.Root = me + 1
		want := own(x)
		want.Ports[1].Delay = runs(nowDelay - 1)
		want.Ports[2].State, want.Ports[2].Delay = learning, runs(0)
		leads(&want)
		out := told(&want, 0, 0, 1, 2, 3)
		check(t, x, want, out)
	}
}

// TestAgeStoppedMeanwhile has settling stop the Age of a port that becomes
// designated: one that has run out by the same second is forgotten all the
// same, once more, and one that hasn't rests.
func TestAgeStoppedMeanwhile(t *testing.T) {
	for _, age := range []api.Timer{rests, runs(0), ahead(nowMaxAge - 1), ahead(nowMaxAge), runs(longest)} {
		x := ledView(4)
		x.Ports[0].Age, x.Ports[3].Age = ahead(nowMaxAge), age
		x.Ports[3].Held.Root = me + 1
		want := own(x)
		leads(&want)
		out := told(&want, 0, 0, 1, 2, 3)
		check(t, x, want, out)
	}
}

// TestAgeOfALesserPortStartsAnother has the first of two ports forget, by
// which the second, which has run out too, leads to the root for a moment: it
// is on its way by then, and its delay isn't begun again.
func TestAgeOfALesserPortStartsAnother(t *testing.T) {
	x := led()
	x.Ports[1].Age, x.Ports[2].Age = ahead(nowMaxAge), ahead(nowMaxAge)
	x.Ports[3].Held = rank.Vector{Root: 3, Cost: 12, Bridge: next + 1, Port: 0x8003}
	x.Ports[3].Age = runs(256)
	want := own(x)
	want.Cost, want.RootPort = 91, 3
	for i := range 3 {
		want.Ports[i].Held, want.Ports[i].Age = heldOfItself(3, 91, x.Ports[i]), rests
		rise(&want.Ports[i])
	}
	want.Ports[3].Age = runs(512)
	rise(&want.Ports[3])
	check(t, x, want, nil)
}

// TestHoldStartedMeanwhile has ports tell by Hello, and owe, as the bridge
// leads by the same second: their Hold, which had run out, keeps them waiting.
func TestHoldStartedMeanwhile(t *testing.T) {
	for _, hold := range []api.Timer{rests, runs(0), runs(255), runs(longest)} {
		x := ledView(3)
		x.Hello, x.Now.MaxAge = ahead(nowHello), 70000
		x.Ports[0].Age, x.Ports[0].State = ahead(70000), forwarding
		x.Ports[1].Hold, x.Ports[2].Hold = hold, hold
		want := own(x)
		out := told(&want, 256, 1, 2)
		leads(&want)
		out = append(out, told(&want, 0, 0)...)
		want.Ports[1].Pending, want.Ports[2].Pending = true, true
		check(t, x, want, out)

		// By the next second they tell what they owe, and nobody else tells.
		x = want
		want = own(x)
		want.Hello, want.Told = runs(256), runs(256)
		for i := range want.Ports {
			want.Ports[i].Hold = rests
			if d := &want.Ports[i].Delay; d.On {
				d.Value += 256
			}
		}
		out = told(&want, 0, 1, 2)
		check(t, x, want, out)
	}
}
