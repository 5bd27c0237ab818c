package tick_test

import (
	"math"
	"reflect"
	"slices"
	"testing"

	"treeline/api"
	"treeline/rank"
	"treeline/tick"
	"treeline/tree"
)

// The states by their numbers, written out apart from the package's names.
const (
	disabled = iota
	blocking
	listening
	learning
	forwarding
)

// me is the bridge's own number in most views, and mine its address; other is
// the root's number of those that others lead, and next the bridge's ahead.
const (
	me    = 0x8001_0203_0405_0607
	mine  = 0x0203_0405_0607
	other = 0x1234
	next  = 0x5678
)

// longest is the greatest Value of a timer.
const longest = 1 << 30

// The times of most views: no two of them, and no sums of two, are alike.
const (
	nowMaxAge, nowHello, nowDelay    = 5121, 513, 3841
	mineMaxAge, mineHello, mineDelay = 4662, 774, 2310
	mineTold                         = mineMaxAge + mineDelay
)

// anyStates are the five states, and numbers that none of them has.
var anyStates = []int{disabled, blocking, listening, learning, forwarding, -1, 5, 256, 1 << 32, math.MinInt, math.MaxInt}

// rests is a timer that rests, made without the layers below.
var rests = api.Timer{}

// runs answers a timer that has run that long.
func runs(value int) api.Timer {
	return api.Timer{On: true, Value: value}
}

// ahead answers a timer that runs out by the next second, and just so.
func ahead(limit int) api.Timer {
	return runs(limit - 256)
}

// stillPort answers a port that is designated for me, whose timers rest, and
// that owes both. Four of them have four states.
func stillPort(i int) api.Port {
	id := api.PortId(0x8001 + i)
	return api.Port{
		Id: id, State: blocking + i%4, Cost: uint32(20*i + 19),
		Held: rank.Vector{Root: me, Cost: 0, Bridge: me, Port: id},
		Ack:  true, Pending: true,
	}
}

// aloneView answers a view of so many ports of a bridge that takes itself for
// the root; all of them are designated, nothing was detected, all timers rest.
func aloneView(ports int) tree.Tree {
	x := tree.Tree{
		Own: me, Root: me, Cost: 0, RootPort: -1,
		Now:  tree.Times{MaxAge: nowMaxAge, Hello: nowHello, Delay: nowDelay},
		Mine: tree.Times{MaxAge: mineMaxAge, Hello: mineHello, Delay: mineDelay},
	}
	for i := range ports {
		x.Ports = append(x.Ports, stillPort(i))
	}
	return x
}

// ledView answers a view of so many ports, at least one, of which that at 0
// leads to the root, 77 far; that at 3, if there is one, isn't designated, and
// blocked; all others are designated. All timers rest.
func ledView(ports int) tree.Tree {
	x := aloneView(ports)
	x.Root, x.Cost, x.RootPort = other, 77, 0
	for i := range x.Ports {
		x.Ports[i].Held.Root, x.Ports[i].Held.Cost = other, 77
	}
	x.Ports[0].Held = rank.Vector{Root: other, Cost: 58, Bridge: next, Port: 0x8003}
	if ports > 3 {
		x.Ports[3].Held = rank.Vector{Root: other, Cost: 66, Bridge: next + 1, Port: 0x8004}
		x.Ports[3].State = blocking
	}
	return x
}

// own answers the view with ports of its own, made without the layers below.
func own(x tree.Tree) tree.Tree {
	x.Ports = slices.Clone(x.Ports)
	return x
}

// with answers the view, its ports its own, changed.
func with(x tree.Tree, change func(x *tree.Tree)) tree.Tree {
	x = own(x)
	change(&x)
	return x
}

// same tells whether two views are alike, without asking the layers below.
func same(a, b tree.Tree) bool {
	p, q := a.Ports, b.Ports
	a.Ports, b.Ports = nil, nil
	return reflect.DeepEqual(a, b) && slices.Equal(p, q)
}

// sameOut tells whether the same frames go out by the same ports, in the same order.
func sameOut(a, b []api.Out) bool {
	return slices.EqualFunc(a, b, func(x, y api.Out) bool {
		return x.Port == y.Port && x.Frame.To == y.Frame.To && x.Frame.From == y.Frame.From &&
			x.Frame.Kind == y.Frame.Kind && slices.Equal(x.Frame.Data, y.Frame.Data)
	})
}

// check lets a second be over twice, as what is answered hangs on the view
// alone, and once more of one with spare room behind its ports, that isn't empty.
func check(t *testing.T, x, want tree.Tree, out []api.Out) {
	t.Helper()
	checkOnce(t, x, want, out)
	checkOnce(t, x, want, out)
	roomy := append(slices.Clone(x.Ports), stillPort(900), stillPort(901), stillPort(902))
	x.Ports = roomy[:len(x.Ports)]
	checkOnce(t, x, want, out)
}

// checkOnce holds what is answered against what is wanted. Then it writes over
// all that goes out, and over the ports, which nothing else may share.
func checkOnce(t *testing.T, x, want tree.Tree, out []api.Out) {
	t.Helper()
	had := slices.Clone(x.Ports[:cap(x.Ports)])
	got, sent := tick.Tick(x)
	if !same(got, want) {
		t.Fatalf("Tick of\n%+v is\n%+v, want\n%+v", x, got, want)
	}
	if !sameOut(sent, out) {
		t.Fatalf("Tick of\n%+v: there goes out\n%x, want\n%x", x, sent, out)
	}
	checkNewMemory(t, sent, out)
	if !same(got, want) {
		t.Fatalf("the view shares memory with what goes out")
	}
	if !slices.Equal(got.Ports, x.Ports) {
		clear(got.Ports[:cap(got.Ports)])
	}
	if now := x.Ports[:cap(x.Ports)]; !slices.Equal(now, had) {
		t.Fatalf("Tick changes, or hands out, the ports\n%+v: now\n%+v", had, now)
	}
}

// checkNewMemory writes over the data of each frame that goes out, spare room
// included: that of the ones behind it stays what it was.
func checkNewMemory(t *testing.T, sent, out []api.Out) {
	t.Helper()
	for i := range sent {
		data := sent[i].Frame.Data
		for j := range data[:cap(data)] {
			data[:cap(data)][j] = 0xa5
		}
		if !sameOut(sent[i+1:], out[i+1:]) {
			t.Fatalf("the frame %d shares memory with one behind it", i)
		}
	}
	clear(sent[:cap(sent)])
}

// checkPlain holds a view's second against the plain reading.
func checkPlain(t *testing.T, x tree.Tree) {
	t.Helper()
	want, out := plainTick(x)
	check(t, x, want, out)
}

// goesOut is what goes out by a port from my address, by these bytes.
func goesOut(port int, b ...byte) api.Out {
	data := append([]byte{0x42, 0x42, 3}, b...)
	return api.Out{Port: port, Frame: api.Frame{To: 0x0180c2000000, From: mine, Kind: uint16(len(data)), Data: data}}
}

// tcnBy is the TCN that goes out by a port from my address.
func tcnBy(i int) api.Out {
	return goesOut(i, 0, 0, 0, 0x80)
}

// told lets the ports at these places of a view that is wanted have told their
// configurations, of that Age, and answers what goes out.
func told(want *tree.Tree, age uint16, places ...int) []api.Out {
	var out []api.Out
	for _, i := range places {
		c := configured(*want, i)
		c.age = age
		out = append(out, c.out(i))
		p := &want.Ports[i]
		p.Ack, p.Pending, p.Hold = false, false, runs(0)
	}
	return out
}

// leads lets a view that is wanted be that of a bridge that leads from now on,
// but for what its ports tell: all of them are designated, those that were
// Blocking rise, and none lets its Age run.
func leads(want *tree.Tree) {
	want.Root, want.Cost, want.RootPort = me, 0, -1
	want.Now = want.Mine
	want.Detected, want.Change, want.Told = true, true, runs(0)
	want.Tcn, want.Hello = rests, runs(0)
	for i := range want.Ports {
		p := &want.Ports[i]
		p.Held = rank.Vector{Root: me, Cost: 0, Bridge: me, Port: p.Id}
		p.Age = rests
		rise(p)
	}
}

// rise lets a port that is Blocking be on its way.
func rise(p *api.Port) {
	if p.State == blocking {
		p.State, p.Delay = listening, runs(0)
	}
}
