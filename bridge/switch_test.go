package bridge_test

import (
	"testing"

	"treeline/api"
)

// 19.2: switched on is what is on already: nothing, in whatever state;
// switched off what is off: nothing.
func TestSwitchToWhatItIs(t *testing.T) {
	for state := disabled; state <= forwarding; state++ {
		l := inState(t, state)
		l.in(0, raw(zoe, ann, 0x0800))
		l.in(1, raw(zoe, bob, 0x0800))
		l.wantNothing(func() []api.Out { return l.turn(0, state != disabled) })
		for i := 1; i < 4; i++ {
			l.wantNothing(func() []api.Out { return l.turn(i, true) })
		}
	}
}

// 19.2: of a port that there isn't: nothing.
func TestSwitchOfNoPort(t *testing.T) {
	for ports := 1; ports <= 4; ports++ {
		l := forwards(t, ports)
		for i := range ports {
			l.in(i, raw(zoe, ann+uint64(i), 0x0800))
		}
		for _, i := range noPlaces(ports) {
			l.wantNothing(func() []api.Out { return l.turn(i, true) })
			l.wantNothing(func() []api.Out { return l.turn(i, false) })
		}
		if len(entries(l.b)) != ports {
			t.Errorf("the table is %x", entries(l.b))
		}
	}
}

// 19.2: off: the table forgets those behind that port, and no others, whose
// ages stay; the port is Disabled.
func TestSwitchOff(t *testing.T) {
	for off := range 4 {
		l := forwards(t, 4)
		var want []entry
		for n := range 12 {
			a := uint64(ann + 300*n)
			l.in(n%4, raw(zoe, a, 0x0800))
			if n%3 == 0 {
				l.tick()
			}
			if n%4 != off {
				want = append(want, entry{api.Addr(a), n % 4, 4 - (n+2)/3})
			}
		}
		states := []int{forwarding, forwarding, forwarding, forwarding}
		states[off] = disabled
		l.turn(off, false)
		l.wantTable(want...)
		l.wantStates(states...)
		if x := l.b.View(); x.Change || x.Detected || l.b.Limit() != 300 {
			t.Errorf("a change is told:\n%+v", x)
		}
	}
}

// 19.2: off, in each state but Disabled: the port is Disabled, at rest, and
// designated; all others go on as they did.
func TestSwitchOffByState(t *testing.T) {
	for state := blocking; state <= forwarding; state++ {
		l := inState(t, state)
		l.in(0, raw(zoe, ann, 0x0800))
		l.in(3, raw(zoe, bob, 0x0800))
		root := l.b.View().Root
		l.turn(0, false)
		l.wantStates(disabled, forwarding, forwarding, forwarding)
		l.wantTable(entry{bob, 3, 0})
		x := l.b.View()
		want := api.Port{Id: 0x8001, Cost: 19, Held: api.Vector{Root: root, Cost: x.Cost, Bridge: me, Port: 0x8001}}
		if x.Ports[0] != want || x.Root != root {
			t.Errorf("of the state %d the port is\n%+v, want\n%+v", state, x.Ports[0], want)
		}
		b := raw(zoe, cat, 0x0800)
		l.wantGoes(l.in(1, b), b, 2, 3)
	}
}

// 19.2: a port that is off neither hears nor tells, nor do frames go by it.
func TestAPortThatIsOff(t *testing.T) {
	l := forwards(t, 3)
	l.in(1, raw(zoe, bob, 0x0800))
	l.turn(1, false)
	for range 20 {
		l.wantNothing(func() []api.Out { return l.in(1, raw(all, ann, 0x0800)) })
		l.wantNothing(func() []api.Out { return l.in(1, rawTold(telling(1))) })
		b := raw(bob, cat, 0x0800)
		l.wantGoes(l.in(0, b), b, 2)
		for _, o := range l.tick() {
			if o.Port == 1 {
				t.Fatalf("there goes out %x", o)
			}
		}
	}
}

// 19.2: on: the port listens, and nothing goes out till the next Hello; it
// forwards behind two delays, and that is told as a change.
func TestSwitchOn(t *testing.T) {
	l := forwards(t, 2)
	l.turn(1, false)
	l.ticks(3)
	if out := l.turn(1, true); len(out) != 0 {
		t.Fatalf("there goes out %x", out)
	}
	for second := 1; second <= 8; second++ {
		l.wantStates(forwarding, listening+(second-1)/4)
		if l.b.Limit() != 300 {
			t.Fatalf("by the second %d the limit is %d", second, l.b.Limit())
		}
		if out := l.tick(); len(out) != 2 || out[1].Port != 1 {
			t.Fatalf("by the second %d there goes out %x", second, out)
		}
	}
	l.wantStates(forwarding, forwarding)
	if l.b.Limit() != 4 {
		t.Errorf("the limit is %d", l.b.Limit())
	}
}

// 19.2: on of a port that was off from the beginning on; till then nothing
// goes out by any second.
func TestSwitchOnAtFirst(t *testing.T) {
	c := someConf(2)
	c.Ports[0].On, c.Ports[1].On = false, false
	l, out := begins(t, c)
	if len(out) != 0 {
		t.Fatalf("there goes out %x", out)
	}
	for range 3 {
		l.wantNothing(l.tick)
	}
	l.turn(1, true)
	l.wantStates(disabled, listening)
	if out = l.tick(); len(out) != 1 || out[0].Port != 1 {
		t.Errorf("there goes out %x", out)
	}
	if got := l.b.Conf(); !sameConf(got, c) {
		t.Errorf("Conf = %+v, want %+v", got, c)
	}
}

// 19.2: off of the port to the root: the bridge leads from then on, if no
// other port leads there, and all others tell it, byte by byte.
func TestSwitchOffTheWayToTheRoot(t *testing.T) {
	l := slow(t, 3)
	l.in(1, rawTold(telling(10)))
	l.in(1, raw(zoe, ann, 0x0800))
	l.in(2, raw(zoe, bob, 0x0800))
	l.tick()
	out := l.turn(1, false)
	if x := l.b.View(); x.Root != me || x.RootPort != -1 || !x.Change || x.Now != x.Mine || len(out) != 2 {
		t.Fatalf("there goes out %x, the view is\n%+v", out, x)
	}
	for n, i := range []int{0, 2} {
		want := raw(reserved, mine, 38,
			0x42, 0x42, 3, 0, 0, 0, 0, 1,
			0x80, 1, 2, 3, 4, 5, 6, 7, 0, 0, 0, 0,
			0x80, 1, 2, 3, 4, 5, 6, 7, 0x80, byte(i+1),
			0, 0, 22, 0, 10, 0, 12, 0)
		l.wantGoes(out[n:n+1], want, i)
	}
	l.wantTable(entry{bob, 2, 1})
	if l.b.Limit() != 12 {
		t.Errorf("the limit is %d", l.b.Limit())
	}
}

// 19.2: on and off do what each does, of each port of each count.
func TestOnAndOffOfEach(t *testing.T) {
	for ports := 1; ports <= 4; ports++ {
		l := forwards(t, ports)
		for n := range 40 {
			i := n * 7 % ports
			l.in(i, raw(zoe, ann+uint64(n), 0x0800))
			l.turn(i, n%3 == 0)
			l.turn((i+1)%ports, n%2 == 0)
			l.ticks(n % 5)
		}
	}
}
