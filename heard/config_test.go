package heard_test

import (
	"fmt"
	"math"
	"slices"
	"testing"

	"treeline/api"
	"treeline/heard"
	"treeline/rank"
	"treeline/tree"
)

// 15.2: Config, where it isn't heard.

// TestConfigOfNoPort asks for places below 0, of the number of ports, and
// beyond, with a configuration that each port would take.
func TestConfigOfNoPort(t *testing.T) {
	best := telling(1, 0, 1, 1)
	for ports := range 5 {
		for _, place := range append([]int{ports, ports + 1, ports + 256, ports - 256, ports + 1<<32}, noPlaces...) {
			checkNothing(t, "Config", configOf(place, best), aloneView(ports))
			checkNothing(t, "Config", configOf(place, telling(math.MaxUint64, 0, 1, 1)), aloneView(ports))
			x := aloneView(ports)
			x.Root, x.RootPort, x.Cost = other, place, 5
			checkNothing(t, "Config", configOf(place, best), x)
		}
	}
	checkNothing(t, "Config", configOf(0, best), tree.Tree{})
	checkNothing(t, "Config", configOf(1000, best), ledView(1000))
}

// TestConfigOfADisabledPort has a port of each state hear a better root, and a
// worse one: a Disabled one alone hears nothing, be it designated or not.
func TestConfigOfADisabledPort(t *testing.T) {
	for _, state := range anyStates {
		for _, x := range []tree.Tree{ledView(4), aloneView(4)} {
			for place := range 4 {
				for _, root := range []api.BridgeId{1, math.MaxUint64} {
					x.Ports[place].State = state
					b := telling(root, 3, 4, 5)
					if state == disabled {
						checkNothing(t, "Config", configOf(place, b), x)
						continue
					}
					want, out := plainConfig(x, place, b)
					check(t, "Config", configOf(place, b), x, want, out)
					if root == 1 && (want.Root != 1 || want.RootPort != place) {
						t.Fatalf("state %d: the port %d hears nothing", state, place)
					}
				}
			}
		}
	}
}

// 15.2: Config that takes the place of what the port holds.

// becameLed is what a bridge that took itself for the root is, with three
// ports, when that at 1 has heard of the root other, 10 far of cost 39.
func becameLed(x tree.Tree, b api.Bpdu) tree.Tree {
	x = own(x)
	x.Root, x.Cost, x.RootPort = other, 49, 1
	for i := range x.Ports {
		p := &x.Ports[i]
		p.Held = rank.Vector{Root: other, Cost: 49, Bridge: me, Port: p.Id}
		p.Age = rests
	}
	p := &x.Ports[1]
	p.Held = rank.Vector{Root: other, Cost: 10, Bridge: next, Port: 0x8009}
	p.Age, p.Ack, p.Pending = runs(int(b.Age)), false, false
	x.Ports[0].State, x.Ports[0].Delay = listening, runs(0)
	x.Hello = rests
	x.Now = tree.Times{MaxAge: int(b.MaxAge), Hello: int(b.Hello), Delay: int(b.Delay)}
	x.Change = b.Change
	return x
}

// TestConfigOfABetterRoot tells byte by byte what goes out of a bridge that
// takes itself for the root no more, in which nothing was detected.
func TestConfigOfABetterRoot(t *testing.T) {
	x := aloneView(3)
	b := telling(other, 10, next, 0x8009)
	want := becameLed(x, b)
	for _, i := range []int{0, 2} {
		want.Ports[i].Ack, want.Ports[i].Pending, want.Ports[i].Hold = false, false, runs(0)
	}
	if want.Told != runs(33) || want.Tcn != runs(32) || want.Detected {
		t.Fatalf("want\n%+v", want)
	}
	check(t, "Config", configOf(1, b), x, want, []api.Out{
		goesOut(0, 0, 0, 0, 0, 0x80, 0, 0, 0, 0, 0, 0, 0x12, 0x34, 0, 0, 0, 49, 0x80, 1, 2, 3, 4, 5, 6, 7, 0x80, 1, 3, 0, 10, 0, 1, 0x2c, 5, 0x14),
		goesOut(2, 0, 0, 0, 0, 0x80, 0, 0, 0, 0, 0, 0, 0x12, 0x34, 0, 0, 0, 49, 0x80, 1, 2, 3, 4, 5, 6, 7, 0x80, 3, 3, 0, 10, 0, 1, 0x2c, 5, 0x14),
	})
}

// TestConfigOfOneThatWasTheRoot lets a change be detected or not, be told or
// not, and each timer run or rest: Hello rests behind it; Told rests, Tcn runs
// from 0 and a TCN goes out ahead of all else just if it was detected.
func TestConfigOfOneThatWasTheRoot(t *testing.T) {
	for flags := range 4 {
		for _, hello := range someTimers() {
			for _, running := range someTimers() {
				for _, since := range someTimers() {
					x := aloneView(3)
					x.Detected, x.Change = flags&1 != 0, flags&2 != 0
					x.Hello, x.Tcn, x.Told = hello, running, since
					b := telling(other, 10, next, 0x8009)
					want := becameLed(x, b)
					var out []api.Out
					if x.Detected {
						want.Told, want.Tcn = rests, runs(0)
						out = []api.Out{tcnBy(1)}
					}
					out = append(out, told(&want, 768, 0, 2)...)
					checkOnce(t, "Config", configOf(1, b), x, want, out)
				}
			}
		}
	}
}

// TestConfigOfOneThatWasTheRootAcks has the new root tell Ack at once: what
// was detected, and went out, was heard.
func TestConfigOfOneThatWasTheRootAcks(t *testing.T) {
	x := aloneView(3)
	x.Detected = true
	b := telling(other, 10, next, 0x8009)
	b.Ack = true
	want := becameLed(x, b)
	want.Told, want.Tcn, want.Detected = rests, rests, false
	out := append([]api.Out{tcnBy(1)}, told(&want, 768, 0, 2)...)
	check(t, "Config", configOf(1, b), x, want, out)
}

// TestConfigOfOneThatWasTheRootAndLosesAPort has a port that holds another
// root all the while: it is lost when the view settles, and what is detected
// by that is told by one TCN, and by one more as the bridge was the root.
func TestConfigOfOneThatWasTheRootAndLosesAPort(t *testing.T) {
	for _, detected := range []bool{false, true} {
		x := aloneView(3)
		x.Detected = detected
		x.Ports[2].Held = rank.Vector{Root: other, Cost: 40, Bridge: 9, Port: 9}
		b := telling(other, 10, next, 0x8009)
		want := becameLed(x, b)
		want.Detected, want.Told, want.Tcn = true, rests, runs(0)
		p := &want.Ports[2]
		p.Held, p.State, p.Delay, p.Age, p.Ack, p.Pending = x.Ports[2].Held, blocking, rests, x.Ports[2].Age, false, false
		out := []api.Out{tcnBy(1)}
		if !detected {
			out = append(out, tcnBy(1))
		}
		out = append(out, told(&want, 768, 0)...)
		check(t, "Config", configOf(1, b), x, want, out)
	}
}

// TestConfigOfTheRootBeforeAndBehind has a bridge with two ports on a LAN: one
// hears what the other one tells. The greater one is blocked, and the bridge
// stays the root: no time is otherwise, and Hello goes on.
func TestConfigOfTheRootBeforeAndBehind(t *testing.T) {
	for _, detected := range []bool{false, true} {
		for _, state := range anyStates[1:] {
			x := aloneView(3)
			x.Detected, x.Ports[2].State = detected, state
			b := telling(me, 0, me, 0x8001)
			b.Ack, b.Change = true, true
			want := own(x)
			want.Ports[0].State, want.Ports[0].Delay = listening, runs(0)
			want.Ports[0].Age, want.Ports[1].Age = rests, rests
			p := &want.Ports[2]
			p.Held.Port, p.Age, p.Ack, p.Pending = 0x8001, runs(512), false, false
			if state != blocking {
				p.State, p.Delay = blocking, rests
			}
			if state == learning || state == forwarding {
				want.Detected, want.Change, want.Told = true, true, runs(0)
			}
			check(t, "Config", configOf(2, b), x, want, nil)
		}
	}
	x := aloneView(3)
	b := telling(me, 0, me, 0x8002)
	want := own(x)
	out := told(&want, 0, 0)
	check(t, "Config", configOf(0, b), x, want, out)
}

// followed is what the view of a led bridge with four ports is when its port 0
// has heard a configuration, and leads to the root still, by that.
func followed(x tree.Tree, b api.Bpdu) tree.Tree {
	x = own(x)
	x.Root, x.Cost, x.RootPort = b.Root, b.Cost+19, 0
	for _, i := range []int{1, 2} {
		x.Ports[i].Held = rank.Vector{Root: x.Root, Cost: x.Cost, Bridge: me, Port: x.Ports[i].Id}
		x.Ports[i].Age = rests
	}
	x.Ports[0].Held = rank.Vector{Root: b.Root, Cost: b.Cost, Bridge: b.Bridge, Port: b.Port}
	x.Ports[0].Age = runs(int(b.Age))
	x.Ports[0].State, x.Ports[0].Delay = listening, runs(0)
	for _, i := range []int{0, 3} {
		x.Ports[i].Ack, x.Ports[i].Pending = false, false
	}
	x.Now = tree.Times{MaxAge: int(b.MaxAge), Hello: int(b.Hello), Delay: int(b.Delay)}
	x.Change = b.Change
	return x
}

// TestConfigToldAnew has the LAN's own bridge tell again what it told, as old
// as may be, and by another port of it, lesser and greater ones.
func TestConfigToldAnew(t *testing.T) {
	for _, age := range []uint16{0, 1, 255, 256, 512, 999, 1000, 1001, 2303} {
		for _, from := range []api.PortId{0, 0x8002, 0x8003, 0x8004, math.MaxUint16} {
			x := ledView(4)
			b := telling(other, 58, next, from)
			b.Age = age
			want := followed(x, b)
			out := told(&want, age+256, 1, 2)
			check(t, "Config", configOf(0, b), x, want, out)
		}
	}
}

// TestConfigAsOldAsMayBe lets it be one less than MaxAge, and as much less
// that the bridge's own is just too old, or just not.
func TestConfigAsOldAsMayBe(t *testing.T) {
	for _, maxAge := range []uint16{1, 2, 256, 257, 258, 2560, 65535} {
		for _, less := range []uint16{1, 255, 256, 257} {
			if less > maxAge {
				continue
			}
			x := ledView(4)
			b := telling(other, 58, next, 0x8003)
			b.MaxAge, b.Age = maxAge, maxAge-less
			want := followed(x, b)
			var out []api.Out
			if less == 257 {
				out = told(&want, b.Age+256, 1, 2)
			}
			check(t, "Config", configOf(0, b), x, want, out)
		}
	}
}

// TestConfigNearer has the port to the root hear of the same root by a lesser
// cost, of a better one that is farther, and by a lesser bridge. Where the
// bridge is nearer to the root than the LAN of its port 3 told, or knows a
// better one, that port is designated from now on.
func TestConfigNearer(t *testing.T) {
	for _, b := range []api.Bpdu{
		telling(other, 57, next, 0x8003), telling(other, 0, next, 0x8003), telling(other, 57, math.MaxUint64, math.MaxUint16),
		telling(other-1, 200, next, 0x8003), telling(0, 1<<31-1, math.MaxUint64, math.MaxUint16),
		telling(other, 58, next-1, 0x8003), telling(other, 58, 0, math.MaxUint16),
	} {
		x := ledView(4)
		want := followed(x, b)
		out := told(&want, 768, 1, 2)
		if b.Root != other || want.Cost < 66 {
			p := &want.Ports[3]
			p.Held = rank.Vector{Root: want.Root, Cost: want.Cost, Bridge: me, Port: p.Id}
			p.Age, p.State, p.Delay, p.Ack, p.Pending = rests, listening, runs(0), true, true
			out = append(out, told(&want, 768, 3)...)
		}
		check(t, "Config", configOf(0, b), x, want, out)
	}
}

// TestConfigByOneThatLeadsFromNowOn has a designated port, and one that isn't,
// hear of a way that is shorter than that by the port 0, or as long by a
// better one: it leads from now on. The port 0 is designated, or blocked.
func TestConfigByOneThatLeadsFromNowOn(t *testing.T) {
	for _, c := range []struct {
		place int
		b     api.Bpdu
		zero  bool // whether the port 0 is designated then
	}{
		{1, telling(1, 3, 4, 5), true},
		{2, telling(other, 0, next, 5), false},
		{1, telling(other, 37, next, 5), false},
		{1, telling(other, 38, next-1, 5), false},
		{2, telling(other, 18, next, 0x8002), false},
	} {
		for _, detected := range []bool{false, true} {
			x := ledView(3)
			x.Detected, x.Ports[0].State = detected, forwarding
			want, out := plainConfig(x, c.place, c.b)
			if want.RootPort != c.place || want.Now != (tree.Times{MaxAge: 2560, Hello: 300, Delay: 1300}) || want.Hello != runs(31) || want.Told != runs(33) {
				t.Fatalf("the port %d should lead:\n%+v", c.place, want)
			}
			if designated := want.Ports[0].Held.Bridge == me; designated != c.zero {
				t.Fatalf("the port 0 is\n%+v", want.Ports[0])
			}
			if lost := !detected && !c.zero; lost != (len(out) > 0 && sameOut(out[:1], []api.Out{tcnBy(c.place)})) {
				t.Fatalf("there go out %x", out)
			}
			check(t, "Config", configOf(c.place, c.b), x, want, out)
		}
	}
}

// TestConfigByOneThatDoesNotLead has a designated port hear something better
// than what it tells, but no way that is better than that by the port 0: it
// is blocked, and neither times nor flags are taken from it. What it tells of
// Ack isn't for it either.
func TestConfigByOneThatDoesNotLead(t *testing.T) {
	for _, b := range []api.Bpdu{
		telling(other, 76, math.MaxUint64, math.MaxUint16), telling(other, 39, 0, 0), telling(other, 77, me-1, math.MaxUint16),
		telling(other, 77, me, 0), telling(other, 77, me, 0x8001), telling(other, 38, next, 0x8004), telling(other, 38, next+1, 0),
	} {
		for flags := range 4 {
			for _, detected := range []bool{false, true} {
				x := ledView(3)
				x.Detected = detected
				for i := range x.Ports {
					x.Ports[i].State = forwarding
				}
				b.Change, b.Ack = flags&1 != 0, flags&2 != 0
				want := own(x)
				p := &want.Ports[1]
				p.Held = rank.Vector{Root: b.Root, Cost: b.Cost, Bridge: b.Bridge, Port: b.Port}
				p.State, p.Delay, p.Age = blocking, rests, runs(512)
				p.Ack, p.Pending = false, false
				want.Ports[0].Ack, want.Ports[0].Pending = false, false
				want.Ports[2].Age = rests
				var out []api.Out
				if !detected {
					want.Detected, want.Tcn = true, runs(0)
					out = []api.Out{tcnBy(0)}
				}
				check(t, "Config", configOf(1, b), x, want, out)
			}
		}
	}
}

// TestConfigByABlockedPort has one that isn't designated hear its LAN told
// anew: it holds that, and nothing else is otherwise.
func TestConfigByABlockedPort(t *testing.T) {
	for flags := range 4 {
		x := ledView(4)
		x.Ports[0].State, x.Ports[0].Ack, x.Ports[0].Pending = forwarding, false, false
		x.Ports[1].Age, x.Ports[2].Age = rests, rests
		x.Ports[3].Ack, x.Ports[3].Pending = false, false
		b := telling(other, 66, next+1, 0x8004)
		b.Change, b.Ack = flags&1 != 0, flags&2 != 0
		want := own(x)
		want.Ports[3].Age = runs(512)
		check(t, "Config", configOf(3, b), x, want, nil)
		b.Cost, b.Port = 65, 0x9999
		want.Ports[3].Held.Cost, want.Ports[3].Held.Port = 65, 0x9999
		check(t, "Config", configOf(3, b), x, want, nil)
	}
}

// TestConfigTellsTimesAndFlags lets each of MaxAge, Hello and Delay be told
// unlike Now's, and Change and Ack be told or not, each alone, of a bridge
// that has detected a change or told one, or not.
func TestConfigTellsTimesAndFlags(t *testing.T) {
	for _, times := range [][3]uint16{{5121, 513, 3841}, {2000, 513, 3841}, {5121, 7, 3841}, {5121, 513, 8}, {769, 0, 0}, {65535, 65535, 65535}, {769, 770, 771}, {771, 770, 769}} {
		for flags := range 16 {
			x := ledView(4)
			x.Detected, x.Change = flags&4 != 0, flags&8 != 0
			b := telling(other, 58, next, 0x8003)
			b.MaxAge, b.Hello, b.Delay = times[0], times[1], times[2]
			b.Change, b.Ack = flags&1 != 0, flags&2 != 0
			want := followed(x, b)
			out := told(&want, 768, 1, 2)
			if b.Ack {
				want.Detected, want.Tcn = false, rests
			}
			check(t, "Config", configOf(0, b), x, want, out)
		}
	}
}

// TestConfigWhileHoldRuns lets the designated ports' Hold run or rest, when
// that to the root hears: those tell whose Hold rests, the others owe it.
func TestConfigWhileHoldRuns(t *testing.T) {
	for which := range 4 {
		x := ledView(4)
		var rest []int
		for i := 1; i <= 2; i++ {
			x.Ports[i].Ack, x.Ports[i].Pending = i == 1, false
			if which>>(i-1)&1 != 0 {
				x.Ports[i].Hold = runs(100 * i)
			} else {
				rest = append(rest, i)
			}
		}
		b := telling(other, 58, next, 0x8003)
		want := followed(x, b)
		for i := 1; i <= 2; i++ {
			want.Ports[i].Pending = want.Ports[i].Hold.On
		}
		out := told(&want, 768, rest...)
		check(t, "Config", configOf(0, b), x, want, out)
	}
}

// 15.2: Config that doesn't take its place.

// TestConfigThatIsWorse has designated ports hear what is worse than what they
// tell by as little as may be, by each number: they tell their own, if their
// Hold rests, and owe it, if it runs. The view doesn't settle, nothing of
// what was heard is taken.
func TestConfigThatIsWorse(t *testing.T) {
	for _, b := range []api.Bpdu{
		telling(other+1, 77, me, 0x8002), telling(math.MaxUint64, 0, 0, 0),
		telling(other, 78, me, 0x8002), telling(other, math.MaxUint32, 0, 0),
		telling(other, 77, me+1, 0x8002), telling(other, 77, math.MaxUint64, 0),
		telling(other, 77, me, 0x8003), telling(other, 77, me, math.MaxUint16),
	} {
		for owes := range 4 {
			for _, hold := range someTimers() {
				for flags := range 4 {
					x := ledView(4)
					p := &x.Ports[1]
					p.Ack, p.Pending, p.Hold = owes&1 != 0, owes&2 != 0, hold
					b.Change, b.Ack = flags&1 != 0, flags&2 != 0
					want := own(x)
					var out []api.Out
					if hold.On {
						want.Ports[1].Pending = true
					} else {
						out = told(&want, 1256, 1)
					}
					checkOnce(t, "Config", configOf(1, b), x, want, out)
				}
			}
		}
	}
}

// TestConfigThatIsWorseOfTheRoot is the same of a bridge that takes itself for
// the root, and of one whose own is too old to be told.
func TestConfigThatIsWorseOfTheRoot(t *testing.T) {
	for _, b := range []api.Bpdu{telling(me+1, 0, 0, 0), telling(me, 1, 0, 0), telling(me, 0, me+1, 0), telling(me, 0, me, 0x8003)} {
		x := aloneView(3)
		want := own(x)
		out := told(&want, 0, 1)
		check(t, "Config", configOf(1, b), x, want, out)
	}
	x := ledView(3)
	x.Now.MaxAge = 1256
	checkNothing(t, "Config", configOf(1, telling(other, 78, 9, 9)), x)
	x.Ports[1].Hold, x.Ports[1].Pending = runs(9), false
	want := with(x, func(x *tree.Tree) { x.Ports[1].Pending = true })
	check(t, "Config", configOf(1, telling(other, 78, 9, 9)), x, want, nil)
}

// TestConfigThatIsItsOwn has a designated port hear what it tells itself, or
// its bridge by a lesser port: that takes the place of what it holds, and
// nobody tells anything.
func TestConfigThatIsItsOwn(t *testing.T) {
	for _, hold := range someTimers() {
		x := ledView(4)
		x.Ports[1].Hold = hold
		want := own(x)
		want.Ports[0].State, want.Ports[0].Delay = listening, runs(0)
		want.Ports[1].Age, want.Ports[2].Age = rests, rests
		for _, i := range []int{0, 3} {
			want.Ports[i].Ack, want.Ports[i].Pending = false, false
		}
		check(t, "Config", configOf(1, telling(other, 77, me, 0x8002)), x, want, nil)

		p := &want.Ports[1]
		p.Held.Port, p.State, p.Delay, p.Age, p.Ack, p.Pending = 0x8001, blocking, rests, runs(512), false, false
		check(t, "Config", configOf(1, telling(other, 77, me, 0x8001)), x, want, nil)
	}
}

// TestConfigThatIsWorseByOneThatIsNotDesignated has the port to the root, and
// a blocked one, hear what is worse than what they hold: nothing happens,
// though they owe something, and the view isn't settled.
func TestConfigThatIsWorseByOneThatIsNotDesignated(t *testing.T) {
	for _, place := range []int{0, 3} {
		for _, hold := range someTimers() {
			x := ledView(4)
			held := x.Ports[place].Held
			x.Ports[place].Hold = hold
			for _, b := range []api.Bpdu{
				telling(held.Root+1, held.Cost, held.Bridge, held.Port), telling(math.MaxUint64, 0, 0, 0),
				telling(held.Root, held.Cost+1, held.Bridge, held.Port), telling(held.Root, math.MaxUint32, 0, 0),
				telling(held.Root, held.Cost, held.Bridge+1, held.Port), telling(held.Root, held.Cost, math.MaxUint64, 0),
				telling(other, 77, me, x.Ports[place].Id),
			} {
				b.Change, b.Ack = true, true
				checkNothing(t, "Config", configOf(place, b), x)
			}
		}
	}
	x := ledView(3)
	x.Ports[2].Held = rank.Vector{Root: other, Cost: 77, Bridge: me, Port: 0x8002}
	checkNothing(t, "Config", configOf(2, telling(other, 77, me, 0x8003)), x)
}

// TestConfigByEachNumber turns what a port holds by one up or down, by each of
// its numbers, and holds what happens against the plain reading.
func TestConfigByEachNumber(t *testing.T) {
	met := map[string]int{}
	for turn := range 81 {
		by := func(n int) uint64 { return uint64(turn/n%3) - 1 }
		for _, x := range []tree.Tree{aloneView(4), ledView(4)} {
			for place := range x.Ports {
				for flags := range 4 {
					x.Detected = flags&1 != 0
					x.Ports[place].Hold.On = flags&2 != 0
					v := x.Ports[place].Held
					b := telling(v.Root+api.BridgeId(by(1)), v.Cost+uint32(by(3)), v.Bridge+api.BridgeId(by(9)), v.Port+api.PortId(by(27)))
					want, out := plainConfig(x, place, b)
					checkOnce(t, "Config", configOf(place, b), x, want, out)
					met[fmt.Sprintf("root %t, then %t; takes %t; leads %t", x.Root == me, want.Root == me, plainTakes(x, place, b), want.RootPort == place)]++
				}
			}
		}
	}
	if len(met) < 7 {
		t.Errorf("only these were met: %v", met)
	}
}

// TestConfigTakesNoFlagOfATcn hands in a configuration that says of itself
// that it is a TCN: it is heard as what it is handed in for.
func TestConfigTakesNoFlagOfATcn(t *testing.T) {
	b := telling(other, 58, next, 0x8003)
	want, out := plainConfig(ledView(4), 0, b)
	b.Tcn = true
	check(t, "Config", configOf(0, b), ledView(4), want, out)
}

// TestConfigOfAThousand has a thousand ports: the last one hears of a better
// root, and all others tell it.
func TestConfigOfAThousand(t *testing.T) {
	x := aloneView(1000)
	for i := range x.Ports {
		x.Ports[i].State = forwarding
	}
	b := telling(1, 3, 4, 5)
	want, out := plainConfig(x, 999, b)
	if want.RootPort != 999 || len(out) != 999 {
		t.Fatalf("%d frames should go out:\n%+v", len(out), want)
	}
	checkOnce(t, "Config", configOf(999, b), x, want, out)
}

// TestExample is the chapter's: a bridge that begins hears of a better root:
// that is its root, by that port; all its other ports tell it.
func TestExample(t *testing.T) {
	c := api.Conf{Addr: mine, Prio: 0x8001, MaxAge: 20, Hello: 2, Delay: 15, Ageing: 300, Table: 8}
	for i := range api.MaxPorts {
		c.Ports = append(c.Ports, api.PortConf{Prio: 128, Cost: uint32(19 + i), On: true})
	}
	for place := range api.MaxPorts {
		x, out := heard.Config(tree.New(c), place, telling(other, 10, next, 1))
		if x.Root != other || x.Cost != uint32(29+place) || x.RootPort != place {
			t.Errorf("the view is\n%+v", x)
		}
		var by []int
		for _, o := range out {
			by = append(by, o.Port)
			told := configuration{root: other, cost: x.Cost, bridge: me, port: uint16(0x8001 + o.Port), age: 768, maxAge: 2560, hello: 300, delay: 1300}
			if !sameOut([]api.Out{o}, []api.Out{told.out(o.Port)}) {
				t.Errorf("there goes out\n%x, want\n%x", o, told.out(o.Port))
			}
		}
		if want := slices.Delete([]int{0, 1, 2, 3}, place, place+1); !slices.Equal(by, want) {
			t.Errorf("%v tell it, want %v", by, want)
		}
	}
}
