package bridge_test

import (
	"fmt"
	"math"
	"slices"
	"testing"

	"treeline/api"
	"treeline/bridge"
	"treeline/fdb"
	"treeline/rank"
	"treeline/tree"
)

// checkRefused wants New to answer that error, no bridge, and that nothing goes out.
func checkRefused(t *testing.T, c api.Conf, want api.Errno) {
	t.Helper()
	b, out, e := bridge.New(c)
	if b != nil || len(out) != 0 || e != want {
		t.Errorf("New(%+v) = %p, %x, %d, want none, nothing, %d", c, b, out, e, want)
	}
}

// A fault is one that a configuration has, and the error of it.
type fault struct {
	want api.Errno
	make func(c *api.Conf)
}

// faults are all that a configuration may have, in the order in which they are told.
func faults() []fault {
	var list []fault
	add := func(want api.Errno, make func(c *api.Conf)) {
		list = append(list, fault{want, make})
	}
	for _, a := range []api.Addr{0, 1 << 40, group, reserved, all, 1 << 48, 1<<48 | ann, math.MaxUint64} {
		add(errArg, func(c *api.Conf) { c.Addr = a })
	}
	for _, n := range []int{math.MinInt, -1, 0, 5, 41, 1<<32 + 6, math.MaxInt} {
		add(errForm, func(c *api.Conf) { c.MaxAge = n })
	}
	for _, n := range []int{math.MinInt, -1, 0, 3, 11, 1<<32 + 1, math.MaxInt} {
		add(errForm, func(c *api.Conf) { c.Hello = n })
	}
	for _, n := range []int{math.MinInt, -1, 0, 3, 31, 1<<32 + 4, math.MaxInt} {
		add(errForm, func(c *api.Conf) { c.Delay = n })
	}
	add(errForm, func(c *api.Conf) { c.MaxAge, c.Delay = 7, 4 })
	add(errForm, func(c *api.Conf) { c.MaxAge, c.Hello, c.Delay = 7, 3, 30 })
	for _, n := range []int{math.MinInt, -1, 0, 9, 1_000_001, math.MaxInt} {
		add(errForm, func(c *api.Conf) { c.Ageing = n })
	}
	for _, n := range []int{math.MinInt, -1, 65, 1 << 32, math.MaxInt} {
		add(errForm, func(c *api.Conf) { c.Table = n })
	}
	add(errNone, func(c *api.Conf) { c.Ports = nil })
	add(errNone, func(c *api.Conf) { c.Ports = []api.PortConf{} })
	for _, n := range []int{5, 6, 255, 256, 260, 1000} {
		add(errLong, func(c *api.Conf) { c.Ports = someConf(n).Ports })
	}
	add(errLong, func(c *api.Conf) { c.Ports = make([]api.PortConf, 5) })
	for i := range 3 {
		for _, cost := range []uint32{0, 65536, 1 << 31, math.MaxUint32} {
			add(errForm, func(c *api.Conf) { c.Ports[i].Cost = cost })
		}
	}
	return list
}

// 19.1: New of each configuration that may not be: chapter 11's error.
func TestNewOfWhatMayNotBe(t *testing.T) {
	checkRefused(t, api.Conf{}, errArg)
	for _, f := range faults() {
		c := someConf(3)
		f.make(&c)
		checkRefused(t, c, f.want)
		for i := range c.Ports {
			c.Ports[i].On = false
		}
		checkRefused(t, c, f.want)
	}
}

// 19.1: of two faults the one that chapter 11 names first is told.
func TestNewTellsTheFirstFault(t *testing.T) {
	list := faults()
	for i, first := range list {
		for _, then := range list[i:] {
			c := someConf(3)
			then.make(&c)
			first.make(&c)
			checkRefused(t, c, first.want)
		}
	}
	c := someConf(0)
	checkRefused(t, c, errNone)
	c.Table = 65
	checkRefused(t, c, errForm)
	c.Addr = 0
	checkRefused(t, c, errArg)
}

// 19.1: of configurations about those that may be New answers a bridge, or the error.
func TestNewOfAllTimes(t *testing.T) {
	for maxAge := 4; maxAge < 43; maxAge++ {
		for hello := range 13 {
			for delay := 2; delay < 33; delay++ {
				c := someConf(1)
				c.MaxAge, c.Hello, c.Delay = maxAge, hello, delay
				if e := plainCheck(c); e != fine {
					checkRefused(t, c, e)
					continue
				}
				if b, out, e := bridge.New(c); b == nil || len(out) != 1 || e != fine {
					t.Fatalf("New(%+v) = %p, %x, %d", c, b, out, e)
				}
			}
		}
	}
}

// 19.1: what goes out as a bridge begins, byte by byte.
func TestWhatGoesOutAtFirst(t *testing.T) {
	c := api.Conf{
		Addr: 0x0a0b0c0d0e0f, Prio: 0x1234, MaxAge: 20, Hello: 2, Delay: 15, Ageing: 300, Table: 8,
		Ports: []api.PortConf{{Prio: 0x80, Cost: 19, On: true}, {Prio: 0, Cost: 1, On: true}, {Prio: 255, Cost: 65535, On: true}},
	}
	_, out := begins(t, c)
	if len(out) != 3 {
		t.Fatalf("%d frames go out, want 3", len(out))
	}
	for i, prio := range []byte{0x80, 0, 255} {
		want := []byte{
			0x01, 0x80, 0xc2, 0, 0, 0, 0x0a, 0x0b, 0x0c, 0x0d, 0x0e, 0x0f, 0, 38,
			0x42, 0x42, 3, 0, 0, 0, 0, 0,
			0x12, 0x34, 0x0a, 0x0b, 0x0c, 0x0d, 0x0e, 0x0f, 0, 0, 0, 0,
			0x12, 0x34, 0x0a, 0x0b, 0x0c, 0x0d, 0x0e, 0x0f, prio, byte(i + 1),
			0, 0, 20, 0, 2, 0, 15, 0,
		}
		f := out[i].Frame
		if got := raw(uint64(f.To), uint64(f.From), f.Kind, f.Data...); !slices.Equal(got, want) || out[i].Port != i {
			t.Errorf("by the port %d there goes out\n% x, want by %d\n% x", out[i].Port, got, i, want)
		}
	}
}

// 19.1: what a bridge is that begins, field by field.
func TestWhatItIsAtFirst(t *testing.T) {
	c := someConf(3)
	c.Ports[1].On = false
	l, out := begins(t, c)
	port := func(i, state int, timer api.Timer) api.Port {
		id := api.PortId(0x8001 + i)
		return api.Port{
			Id: id, State: state, Cost: uint32(19 + 20*i),
			Held: rank.Vector{Root: me, Bridge: me, Port: id}, Delay: timer, Hold: timer,
		}
	}
	times := tree.Times{MaxAge: 6 * 256, Hello: 256, Delay: 4 * 256}
	want := tree.Tree{
		Own: me, Root: me, RootPort: -1, Now: times, Mine: times, Hello: runs(0),
		Ports: []api.Port{port(0, listening, runs(0)), port(1, disabled, rests), port(2, listening, runs(0))},
	}
	if x := l.b.View(); !same(x, want) {
		t.Errorf("View = \n%+v, want\n%+v", x, want)
	}
	if len(out) != 2 || out[0].Port != 0 || out[1].Port != 2 {
		t.Errorf("there goes out %x", out)
	}
	l.wantStates(listening, disabled, listening)
	l.wantTable()
	if got := l.b.Limit(); got != 300 {
		t.Errorf("Limit = %d, want 300", got)
	}
	if got := l.b.Conf(); !sameConf(got, c) {
		t.Errorf("Conf = %+v, want %+v", got, c)
	}
}

// 19.1: of one port to four, of each way in which they are on or off: one
// configuration by each that is on, in their order.
func TestPortsThatAreOn(t *testing.T) {
	for ports := 1; ports <= 4; ports++ {
		for on := range 1 << ports {
			c := someConf(ports)
			var want, states []int
			for i := range c.Ports {
				if c.Ports[i].On = on>>i&1 == 1; c.Ports[i].On {
					want, states = append(want, i), append(states, listening)
				} else {
					states = append(states, disabled)
				}
			}
			l, out := begins(t, c)
			var by []int
			for _, o := range out {
				by = append(by, o.Port)
			}
			if !slices.Equal(by, want) {
				t.Errorf("of %+v there goes out by %d, want %d", c.Ports, by, want)
			}
			l.wantStates(states...)
			l.ticks(20)
			for i := range states {
				states[i] *= 2
			}
			l.wantStates(states...)
		}
	}
}

// 19.1: of the edges of each number of a configuration.
func TestNewAtTheEdges(t *testing.T) {
	for _, change := range []func(c *api.Conf){
		func(c *api.Conf) { c.Addr = 1 },
		func(c *api.Conf) { c.Addr = 0xfeff_ffff_ffff },
		func(c *api.Conf) { c.Prio = 0 },
		func(c *api.Conf) { c.Prio = math.MaxUint16 },
		func(c *api.Conf) { c.MaxAge, c.Hello, c.Delay = 40, 1, 30 },
		func(c *api.Conf) { c.MaxAge, c.Hello, c.Delay = 40, 10, 21 },
		func(c *api.Conf) { c.MaxAge, c.Hello, c.Delay = 6, 2, 4 },
		func(c *api.Conf) { c.Ageing = 10 },
		func(c *api.Conf) { c.Ageing = 1_000_000 },
		func(c *api.Conf) { c.Table = 0 },
		func(c *api.Conf) { c.Table = 64 },
		func(c *api.Conf) { c.Ports[0] = api.PortConf{Prio: 255, Cost: 65535} },
		func(c *api.Conf) { c.Ports[1] = api.PortConf{Cost: 1, On: true} },
	} {
		c := someConf(2)
		change(&c)
		l, _ := begins(t, c)
		l.ticks(70)
		l.in(0, raw(zoe, ann, 0x0800))
		l.in(1, raw(ann, bob, 0x0800))
		l.ticks(3)
	}
}

// 19.1, rule 4: New keeps nothing of what it is handed: who changes that
// later changes no bridge, neither now nor when it begins again.
func TestWhatNewWasHandedIsNotKept(t *testing.T) {
	c := someConf(3)
	want := someConf(3)
	b, _, _ := bridge.New(c)
	x := b.View()
	for i := range c.Ports {
		c.Ports[i] = api.PortConf{Prio: 1, Cost: 5}
	}
	if got := b.Conf(); !sameConf(got, want) {
		t.Errorf("Conf = %+v, want %+v", got, want)
	}
	if out := b.Reboot(); len(out) != 3 || !same(b.View(), x) {
		t.Errorf("behind Reboot the view is\n%+v, want\n%+v", b.View(), x)
	}
}

// 19.1, rule 4: what Conf, View and States hand out is new memory: it stays as
// it is, whatever the bridge goes through.
func TestWhatIsHandedOutStays(t *testing.T) {
	l, _ := begins(t, someConf(3))
	c, x, states := l.b.Conf(), l.b.View(), l.b.States()
	had := own(x)
	l.ticks(4)
	l.in(1, rawTold(telling(10)))
	l.turn(2, false)
	if !sameConf(c, someConf(3)) || !same(x, had) || !slices.Equal(states, []int{listening, listening, listening}) {
		t.Errorf("they are changed: %+v\n%+v\n%d", c, x, states)
	}
	c.Ports[0].Cost, x.Ports[0].State, states[0] = 0, 77, 77
	x.Root, c.Table = 77, 77
	l.check("what was handed out is changed")
	l.reboot()
}

// 19.1, rule 4: no two answers share memory, spare room included.
func TestAnswersShareNothing(t *testing.T) {
	l := forwards(t, 4)
	first, second := l.b.States(), l.b.States()
	for i := range first[:cap(first)] {
		first[:cap(first)][i] = -7
	}
	if !slices.Equal(second, l.m.states()) {
		t.Errorf("States = %d", second)
	}
	x, y := l.b.View(), l.b.View()
	clear(x.Ports[:cap(x.Ports)])
	if !same(y, l.m.view) {
		t.Errorf("View = %+v", y)
	}
	c, d := l.b.Conf(), l.b.Conf()
	clear(c.Ports[:cap(c.Ports)])
	if !sameConf(d, l.m.conf) {
		t.Errorf("Conf = %+v", d)
	}
	l.check("all is overwritten")
}

// 19.1: Table hands out all, rising, with port and age; it can be gone through
// twice, and left.
func TestTableHandsOut(t *testing.T) {
	l := forwards(t, 3)
	for _, a := range []uint64{cat, ann, bob} {
		l.tick()
		l.in(int(a%4)-1, raw(all, a, 0x0800))
	}
	want := []entry{{ann, 0, 1}, {bob, 1, 0}, {cat, 2, 2}}
	l.wantTable(want...)
	seq := l.b.Table()
	for steps := range 4 {
		var got []entry
		seq(func(a api.Addr, e fdb.Entry) bool {
			got = append(got, entry{a, e.Port, e.Age})
			return len(got) <= steps
		})
		if !slices.Equal(got, want[:min(steps+1, 3)]) {
			t.Errorf("left behind %d: %x", steps, got)
		}
	}
	for _, w := range want {
		if port, there := l.b.Lookup(w.addr); port != w.port || !there {
			t.Errorf("Lookup(%x) = %d, %t", w.addr, port, there)
		}
	}
	if port, there := l.b.Lookup(zoe); port != 0 || there {
		t.Errorf("Lookup of nobody = %d, %t", port, there)
	}
}

// 19.1: what Table hands out is what is there when one begins to go through it.
func TestTableAsItIsWhenOneBegins(t *testing.T) {
	l := forwards(t, 2)
	seq := l.b.Table()
	many := func() int {
		n := 0
		for range seq {
			n++
		}
		return n
	}
	if many() != 0 {
		t.Errorf("an empty table hands out %d", many())
	}
	for i, a := range []uint64{ann, bob, cat} {
		l.in(0, raw(zoe, a, 0x0800))
		if many() != i+1 {
			t.Errorf("of %d learnt there are handed out %d", i+1, many())
		}
	}
	l.reboot()
	if many() != 0 {
		t.Errorf("of a bridge that begins again there are handed out %d", many())
	}
}

// 19.1: as many are learnt as Table tells, from none on; who is there already
// is heard, and moves, also in a full one.
func TestEachTable(t *testing.T) {
	for _, size := range []int{0, 1, 2, 3, 31, 63, 64} {
		t.Run(fmt.Sprint(size), func(t *testing.T) {
			c := someConf(2)
			c.Table = size
			l := forwardsOf(t, c)
			for a := range uint64(70) {
				l.wantGoes(l.in(0, raw(zoe, ann+7*a, 0x0800)), raw(zoe, ann+7*a, 0x0800), 1)
			}
			if got := len(entries(l.b)); got != size {
				t.Fatalf("there are learnt %d, want %d", got, size)
			}
			l.tick()
			for a := range uint64(70) {
				port, there := l.b.Lookup(api.Addr(ann + 7*a))
				if want := int(a) < size; there != want || port != 0 {
					t.Fatalf("Lookup of the one at %d = %d, %t", a, port, there)
				}
				l.in(1, raw(zoe, ann+7*a, 0x0800))
				if port, there = l.b.Lookup(api.Addr(ann + 7*a)); there != (int(a) < size) || there && port != 1 {
					t.Fatalf("Lookup of the one at %d that moved = %d, %t", a, port, there)
				}
			}
		})
	}
}
