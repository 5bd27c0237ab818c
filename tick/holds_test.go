package tick_test

import (
	"math/rand/v2"
	"testing"

	"treeline/api"
	"treeline/heard"
	"treeline/rank"
	"treeline/tick"
	"treeline/tree"
)

// 16.2.

// tally counts the configurations that go out by each port; none may send a
// second one.
func tally(t *testing.T, sent map[int]int, x tree.Tree, out []api.Out) {
	t.Helper()
	for _, o := range out {
		if len(o.Frame.Data) == 7 {
			continue
		}
		if sent[o.Port]++; sent[o.Port] > 1 {
			t.Fatalf("by one second, and till the next one, a second configuration goes out by the port %d: %x of\n%+v", o.Port, o.Frame.Data, x)
		}
	}
}

// checkOneEach lets a second be over, and then the view hear so many things:
// by no port there goes out more than one configuration. It answers the view
// by then, and how many went out.
func checkOneEach(t *testing.T, draw *rand.Rand, x tree.Tree, things int) (tree.Tree, int) {
	t.Helper()
	sent := map[int]int{}
	y, out := tick.Tick(x)
	tally(t, sent, y, out)
	for range things {
		y, out = hears(draw, y)
		tally(t, sent, y, out)
	}
	return y, len(sent)
}

func TestOneConfigurationEach(t *testing.T) {
	draw := rand.New(rand.NewPCG(16, 3))
	all := 0
	for range 2000 {
		x := anyView(draw, 1+draw.IntN(5))
		for range 8 {
			var sent int
			x, sent = checkOneEach(t, draw, x, draw.IntN(25))
			all += sent
		}
	}
	if all < 10000 {
		t.Errorf("only %d configurations went out", all)
	}
}

// noisy lets each port of a view hear, again and again, what its designated
// port must answer: something worse, something of the bridge itself, TCNs.
func noisy(t *testing.T, sent map[int]int, x tree.Tree) tree.Tree {
	t.Helper()
	worse := api.Bpdu{Root: me + 1, Cost: 9, Bridge: me + 1, Port: 0x8001, MaxAge: 5120, Hello: 512, Delay: 3840}
	for n := range 12 {
		for i := range x.Ports {
			var out []api.Out
			switch n % 3 {
			case 0:
				x, out = heard.Config(x, i, worse)
			case 1:
				x, out = heard.Tcn(x, i)
			case 2:
				x, out, _ = heard.Bytes(x, i, plainPut(worse))
			}
			tally(t, sent, x, out)
		}
	}
	return x
}

// TestOneOfEachWhileOthersAreLoud has ports that must answer all the while:
// each sends just one configuration a second, and one each second.
func TestOneOfEachWhileOthersAreLoud(t *testing.T) {
	for _, hello := range []int{0, 256, 512, 1024} {
		x := aloneView(4)
		x.Now.Hello, x.Hello = hello, runs(0)
		for second := range 40 {
			sent := map[int]int{}
			y, out := tick.Tick(x)
			tally(t, sent, y, out)
			x = noisy(t, sent, y)
			if len(sent) != 4 {
				t.Fatalf("by the second %d only the ports of %v send one", second, sent)
			}
		}
	}
}

// TestOneOfEachThatFollows has one that isn't the root hear it tell its tree
// again and again: those that it leads are told once a second.
func TestOneOfEachThatFollows(t *testing.T) {
	x := ledView(4)
	x.Ports[0].Age = runs(0)
	for second := range 40 {
		sent := map[int]int{}
		y, out := tick.Tick(x)
		tally(t, sent, y, out)
		for n := range 9 {
			y, out = heard.Config(y, 0, api.Bpdu{Root: other, Cost: 58, Bridge: next, Port: 0x8003, Change: n%2 == 0, MaxAge: 5120, Hello: 512, Delay: 3840})
			tally(t, sent, y, out)
		}
		if x = noisy(t, sent, y); len(sent) != 2 || sent[1] != 1 || sent[2] != 1 {
			t.Fatalf("by the second %d the ports of %v send one", second, sent)
		}
	}
}

// checkNotTooOld lets a second be over: no port holds anything as old as the
// MaxAge that held by then, and what was is the port's own by now. It answers
// the view behind it.
func checkNotTooOld(t *testing.T, x tree.Tree) tree.Tree {
	t.Helper()
	y, _ := tick.Tick(x)
	for i, p := range y.Ports {
		if p.Age.On && p.Age.Value >= x.Now.MaxAge {
			t.Fatalf("behind the second that is over for\n%+v the port %d holds what is too old:\n%+v", x, i, y)
		}
		was := x.Ports[i].Age
		if was.On && min(was.Value+256, longest) >= x.Now.MaxAge && !plainDesignated(y, i) {
			t.Fatalf("behind the second that is over for\n%+v the port %d holds still what was too old:\n%+v", x, i, y)
		}
	}
	return y
}

func TestNothingIsTooOld(t *testing.T) {
	draw := rand.New(rand.NewPCG(16, 4))
	for range 4000 {
		x := anyView(draw, 1+draw.IntN(5))
		for range 12 {
			x = checkNotTooOld(t, x)
			for range draw.IntN(4) {
				x, _ = hears(draw, x)
			}
		}
	}
}

// TestForgetsInTime lets nobody tell anything any more: a port holds what it
// heard for just as many seconds as are begun till MaxAge, one at least, and
// the bridge leads from then on.
func TestForgetsInTime(t *testing.T) {
	for _, maxAge := range []uint16{1, 255, 256, 257, 511, 512, 513, 2560, 5120, 5121, 65535} {
		for _, old := range []uint16{0, 1, 255, 256, 257, 512, 2304, 65534} {
			if old >= maxAge {
				continue
			}
			x, _, e := heard.Bytes(aloneView(3), 1, plainPut(api.Bpdu{Root: other, Cost: 58, Bridge: next, Port: 0x8003, Age: old, MaxAge: maxAge, Hello: 512, Delay: 3840}))
			if e != api.OK || x.RootPort != 1 {
				t.Fatalf("Bytes answers %d and\n%+v", e, x)
			}
			seconds := (int(maxAge) - int(old) + 255) / 256
			for n := range seconds {
				if x.Root != other || !x.Ports[1].Age.On {
					t.Fatalf("of the Age %d and the MaxAge %d, %d seconds later: it is forgotten too soon:\n%+v", old, maxAge, n, x)
				}
				x = checkNotTooOld(t, x)
			}
			if x.Root != me || x.RootPort != -1 || x.Now != x.Mine || !plainDesignated(x, 1) {
				t.Fatalf("of the Age %d and the MaxAge %d, %d seconds later: it isn't forgotten:\n%+v", old, maxAge, seconds, x)
			}
		}
	}
}

// TestItsOwnIsNeverTooOld has a bridge that nobody tells anything: what its
// ports hold is its own, for however long.
func TestItsOwnIsNeverTooOld(t *testing.T) {
	x := aloneView(3)
	x.Hello = runs(0)
	for range 3000 {
		x = checkNotTooOld(t, x)
		for i, p := range x.Ports {
			if want := (rank.Vector{Root: me, Bridge: me, Port: p.Id}); p.Held != want || p.Age.On {
				t.Fatalf("the port %d holds %+v", i, p)
			}
		}
	}
}

// TestComesToForward lets a bridge alone tick on: its ports listen for its
// Delay, learn for its Delay, and forward, and the change is told for the sum
// of its MaxAge and Delay, by a configuration of each port each Hello.
func TestComesToForward(t *testing.T) {
	x := aloneView(2)
	for i := range x.Ports {
		x.Ports[i].State = blocking
		rise(&x.Ports[i])
	}
	x.Now, x.Hello = x.Mine, runs(0)
	// Seconds that are begun: Delay 10, Hello 4, the sum 28.
	for second := 1; second <= 80; second++ {
		y, out := tick.Tick(x)
		want := listening + min(second/10, 2)
		if y.Ports[0].State != want || y.Ports[1].State != want {
			t.Fatalf("by the second %d the states are %d and %d, want %d", second, y.Ports[0].State, y.Ports[1].State, want)
		}
		if tells := second >= 20 && second < 48; y.Change != tells || y.Detected != tells {
			t.Fatalf("by the second %d a change is told: %t", second, y.Change)
		}
		if (len(out) != 0) != (second%4 == 0) {
			t.Fatalf("by the second %d there go out %x", second, out)
		}
		x = y
	}
}
