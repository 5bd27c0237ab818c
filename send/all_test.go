package send_test

import (
	"testing"

	"treeline/api"
	"treeline/conf"
	"treeline/rank"
	"treeline/send"
	"treeline/tree"
)

// 14.1: All.

// checkAll wants just the ports at those places to tell, in that order.
func checkAll(t *testing.T, x tree.Tree, tell ...int) {
	t.Helper()
	want := own(x)
	var out []api.Out
	for _, i := range tell {
		told := configured(x, i)
		told.age = plainAge(x)
		out = append(out, told.out(i))
		want.Ports[i].Pending, want.Ports[i].Ack, want.Ports[i].Hold = false, false, runs(0)
	}
	check(t, "All", send.All, x, want, out)
}

// exampleConf answers a configuration of as many ports as are told, on or off.
func exampleConf(on ...bool) api.Conf {
	c := api.Conf{Addr: mine, Prio: 0x8001, MaxAge: 20, Hello: 2, Delay: 15, Ageing: 300, Table: 8}
	for i, is := range on {
		c.Ports = append(c.Ports, api.PortConf{Prio: 128, Cost: uint32(19 + i), On: is})
	}
	return c
}

// TestExample is the chapter's: a bridge that begins tells by each port that
// is on, of the Age 0.
func TestExample(t *testing.T) {
	for on := range 1 << api.MaxPorts {
		c := exampleConf(on&1 != 0, on&2 != 0, on&4 != 0, on&8 != 0)
		if e := conf.Check(c); e != api.OK {
			t.Fatalf("Check(%+v) = %d", c, e)
		}
		x := tree.New(c)
		want := own(x)
		var out []api.Out
		for i, p := range c.Ports {
			if !p.On {
				continue
			}
			told := configuration{root: me, bridge: me, port: uint16(0x8001 + i), maxAge: 5120, hello: 512, delay: 3840}
			out = append(out, told.out(i))
			want.Ports[i].Hold = runs(0)
		}
		check(t, "All", send.All, x, want, out)
	}
}

func TestAllOfNoPorts(t *testing.T) {
	checkNothing(t, "All", send.All, tree.Tree{})
	checkNothing(t, "All", send.All, aloneView(0))
	x := aloneView(0)
	x.Root = 1
	checkNothing(t, "All", send.All, x)
}

func TestAll(t *testing.T) {
	checkAll(t, aloneView(1), 0)
	checkAll(t, aloneView(4), 0, 1, 2, 3)
	checkAll(t, ledView(1))
	checkAll(t, ledView(4), 1, 2, 3)
}

// TestAllOfThoseThatAre lets each of four ports be designated, or hold what
// its bridge tells by another port, or another bridge by one of its number.
func TestAllOfThoseThatAre(t *testing.T) {
	for which := range 1 << 4 {
		for _, held := range []rank.Vector{{Root: 0x1234, Cost: 77, Bridge: me}, {Root: 0x1234, Cost: 77, Bridge: me + 1}, {Bridge: me - 1}, {}} {
			x := ledView(5)
			var tell []int
			for i := 1; i < 5; i++ {
				if which>>(i-1)&1 != 0 {
					tell = append(tell, i)
					continue
				}
				if held.Port = x.Ports[i].Id; held.Bridge == me {
					held.Port = x.Ports[i%4+1].Id
				}
				x.Ports[i].Held = held
			}
			checkAll(t, x, tell...)
		}
	}
}

// TestAllOfWhatOneHolds looks at each bit of who tells, and by which port:
// one alone makes a port that isn't designated. Root and Cost make none.
func TestAllOfWhatOneHolds(t *testing.T) {
	for bit := range 64 {
		x := ledView(3)
		x.Ports[1].Held.Bridge ^= 1 << bit
		checkAll(t, x, 2)
		x = ledView(3)
		x.Ports[2].Held.Port ^= 1 << (bit % 16)
		checkAll(t, x, 1)
		x = ledView(3)
		x.Ports[1].Held.Root ^= 1 << bit
		x.Ports[2].Held.Cost ^= 1 << (bit % 32)
		checkAll(t, x, 1, 2)
	}
}

// TestAllOfEachState has designated ports in each state: none is left out but
// Disabled ones.
func TestAllOfEachState(t *testing.T) {
	for _, state := range anyStates {
		for place := range 3 {
			x := aloneView(3)
			x.Ports[place].State = state
			var tell []int
			for i := range 3 {
				if i != place || state != disabled {
					tell = append(tell, i)
				}
			}
			checkAll(t, x, tell...)
		}
	}
	x := aloneView(3)
	for i := range x.Ports {
		x.Ports[i].State = disabled
	}
	checkAll(t, x)
}

// TestAllOfTheOneThatLeads has a port to the root that is designated: it
// tells as any other one.
func TestAllOfTheOneThatLeads(t *testing.T) {
	x := ledView(3)
	for place := range 3 {
		x.RootPort = place
		checkAll(t, with(x, func(x *tree.Tree) {
			x.Ports[0].Held = rank.Vector{Bridge: me, Port: x.Ports[0].Id}
		}), 0, 1, 2)
	}
}

// TestAllWhileHoldRuns lets each of four ports' Hold run, or rest: those tell
// whose Hold rests, the others owe it.
func TestAllWhileHoldRuns(t *testing.T) {
	for which := range 1 << 4 {
		for owes := range 4 {
			x := ledView(5)
			want := own(x)
			var out []api.Out
			for i := 1; i < 5; i++ {
				for _, y := range []tree.Tree{x, want} {
					y.Ports[i].Ack, y.Ports[i].Pending = owes&1 != 0, owes&2 != 0
				}
				if which>>(i-1)&1 != 0 {
					x.Ports[i].Hold, want.Ports[i].Hold = runs(64*i), runs(64*i)
					want.Ports[i].Pending = true
					continue
				}
				told := configured(x, i)
				told.age = 1256
				out = append(out, told.out(i))
				want.Ports[i].Ack, want.Ports[i].Pending, want.Ports[i].Hold = false, false, runs(0)
			}
			check(t, "All", send.All, x, want, out)
		}
	}
}

// TestAllOfWhatIsTooOld lets nothing go out: whose Hold rests stays as it was.
func TestAllOfWhatIsTooOld(t *testing.T) {
	for _, maxAge := range []int{-1, 0, 1, 1255, 1256} {
		x := ledView(4)
		x.Now.MaxAge = maxAge
		checkNothing(t, "All", send.All, x)
		x.Ports[2].Hold = runs(0)
		x.Ports[2].Pending = false
		check(t, "All", send.All, x, with(x, func(x *tree.Tree) { x.Ports[2].Pending = true }), nil)
	}
	x := ledView(4)
	x.Now.MaxAge = 1257
	checkAll(t, x, 1, 2, 3)
}

// TestAllBehindAll lets all tell, and asks for it again: all owe it then.
func TestAllBehindAll(t *testing.T) {
	for _, x := range []tree.Tree{aloneView(4), ledView(4)} {
		y, out := send.All(x)
		if first := 4 - len(out); first != 0 && first != 1 {
			t.Fatalf("%d frames go out", len(out))
		}
		want := own(y)
		for i := range want.Ports {
			if i != y.RootPort {
				want.Ports[i].Pending = true
			}
		}
		check(t, "All", send.All, y, want, nil)
		checkNothing(t, "All", send.All, want)
	}
}

// TestAllOfAThousand has a thousand ports, each third of which isn't
// designated, and each fifth Disabled.
func TestAllOfAThousand(t *testing.T) {
	x := ledView(1000)
	var tell []int
	for i := range x.Ports {
		if i%5 == 4 {
			x.Ports[i].State = disabled
		}
		if i%3 == 2 {
			x.Ports[i].Held.Bridge--
		}
		if i > 0 && i%5 != 4 && i%3 != 2 {
			tell = append(tell, i)
		}
	}
	checkAll(t, x, tell...)
	all := make([]int, 1000)
	for i := range all {
		all[i] = i
	}
	checkAll(t, aloneView(1000), all...)
}
