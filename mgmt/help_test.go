package mgmt_test

import (
	"math"
	"reflect"
	"slices"
	"testing"

	"treeline/api"
	"treeline/mgmt"
	"treeline/rank"
	"treeline/tree"
)

// The states by their numbers, written out apart from the package's names.
const (
	disabled = iota
	blocking
	listening
	learning
	forwarding
)

// The errors by their numbers.
const (
	fine    = 0
	errForm = 3
	errNone = 8
)

// me is the bridge's own number in most views, and mine its address; other is
// the root's number of those that others lead, and next the bridge's ahead.
// Numbers of other priorities lie between them.
const (
	me    = 0x8001_0203_0405_0607
	mine  = 0x0203_0405_0607
	other = 0x4000_0000_0000_1234
	next  = 0x6000_0000_0000_5678
)

// longest is the greatest Value of a timer.
const longest = 1 << 30

// anyStates are the five states, and numbers that none of them has.
var anyStates = []int{disabled, blocking, listening, learning, forwarding, -1, 5, 256, 1 << 32, math.MinInt, math.MaxInt}

// noPlaces are numbers at which no view of so many ports has one.
func noPlaces(ports int) []int {
	return []int{math.MinInt, -1 << 32, -1000, -257, -256, -2, -1, ports, ports + 1, 1000, 1001, 1 << 16, 1 << 32, 1<<32 + 1, math.MaxInt}
}

// rests is a timer that rests, made without the layers below.
var rests = api.Timer{}

// runs answers a timer that has run that long.
func runs(value int) api.Timer {
	return api.Timer{On: true, Value: value}
}

// someTimers answers timers that rest and run, at 0, at the greatest Value, and between.
func someTimers() []api.Timer {
	return []api.Timer{rests, runs(0), runs(256), runs(512), runs(longest)}
}

// ownPort answers a port that is designated for me, of a view that has
// settled: it owes both, its Hold rests. Three of them have three states.
func ownPort(i int) api.Port {
	id := api.PortId(0x8001 + i)
	return api.Port{
		Id: id, State: listening + i%3, Cost: uint32(20*i + 19),
		Held: rank.Vector{Root: me, Cost: 0, Bridge: me, Port: id},
		Ack:  true, Pending: true, Delay: runs(20*i + 6),
	}
}

// rootView answers a view, that has settled, of so many ports of a bridge that
// takes itself for the root; all of them are designated, nothing was detected.
func rootView(ports int) tree.Tree {
	x := tree.Tree{
		Own: me, Root: me, Cost: 0, RootPort: -1,
		Now:  tree.Times{MaxAge: 5121, Hello: 513, Delay: 3841},
		Mine: tree.Times{MaxAge: 4662, Hello: 774, Delay: 2310}, Hello: runs(31), Tcn: runs(32), Told: runs(33),
	}
	for i := range ports {
		x.Ports = append(x.Ports, ownPort(i))
	}
	return x
}

// ledView answers a view, that has settled, of so many ports, at least one, of
// which that at 0 leads to the root, 77 far, heard of 1000 256ths of a second
// ago, and forwards; that at 3, if there is one, isn't designated, and
// blocked: it would lead to the root, 145 far. All others are designated.
func ledView(ports int) tree.Tree {
	x := rootView(ports)
	x.Root, x.Cost, x.RootPort = other, 77, 0
	tellsAll(&x)
	x.Ports[0] = api.Port{
		Id: 0x8001, State: forwarding, Cost: 19, Age: runs(1000), Hold: runs(1),
		Held: rank.Vector{Root: other, Cost: 58, Bridge: next, Port: 0x8003},
	}
	if ports > 3 {
		x.Ports[3] = api.Port{
			Id: 0x8004, State: blocking, Cost: 79, Age: runs(65), Hold: runs(2),
			Held: rank.Vector{Root: other, Cost: 66, Bridge: next + 1, Port: 0x8004},
		}
	}
	return x
}

// tells lets the ports at these places of a view hold what it tells.
func tells(x *tree.Tree, places ...int) {
	for _, i := range places {
		p := &x.Ports[i]
		p.Held = rank.Vector{Root: x.Root, Cost: x.Cost, Bridge: x.Own, Port: p.Id}
	}
}

// tellsAll lets all ports of a view hold what it tells.
func tellsAll(x *tree.Tree) {
	for i := range x.Ports {
		tells(x, i)
	}
}

// rest puts the port at a place of a view to rest in a state.
func rest(x *tree.Tree, i, state int) {
	x.Ports[i] = api.Port{Id: x.Ports[i].Id, State: state, Cost: x.Ports[i].Cost}
	tells(x, i)
}

// rise lets the port at a place that was put to rest, or blocked, be on its way.
func rise(x *tree.Tree, i int) {
	x.Ports[i].State, x.Ports[i].Delay = listening, runs(0)
}

// blocked lets the port at a place of a view be blocked, and owe nothing.
func blocked(x *tree.Tree, i int) {
	p := &x.Ports[i]
	p.State, p.Delay, p.Ack, p.Pending = blocking, rests, false, false
}

// leads lets a view that is wanted be that of a bridge that leads from now on,
// but for what its ports tell.
func leads(want *tree.Tree) {
	want.Root, want.Cost, want.RootPort = want.Own, 0, -1
	want.Now = want.Mine
	want.Detected, want.Change, want.Told = true, true, runs(0)
	want.Tcn, want.Hello = rests, runs(0)
	tellsAll(want)
}

// own answers the view with ports of its own, made without the layers below.
func own(x tree.Tree) tree.Tree {
	x.Ports = slices.Clone(x.Ports)
	return x
}

// with answers the view, its ports its own, changed.
func with(x tree.Tree, change func(x *tree.Tree)) tree.Tree {
	x = own(x)
	change(&x)
	return x
}

// same tells whether two views are alike, without asking the layers below.
func same(a, b tree.Tree) bool {
	p, q := a.Ports, b.Ports
	a.Ports, b.Ports = nil, nil
	return reflect.DeepEqual(a, b) && slices.Equal(p, q)
}

// sameOut tells whether the same frames go out by the same ports, in the same order.
func sameOut(a, b []api.Out) bool {
	return slices.EqualFunc(a, b, func(x, y api.Out) bool {
		return x.Port == y.Port && x.Frame.To == y.Frame.To && x.Frame.From == y.Frame.From &&
			x.Frame.Kind == y.Frame.Kind && slices.Equal(x.Frame.Data, y.Frame.Data)
	})
}

// A step is a call of this layer, or of its plain reading, that answers a
// view, and what goes out.
type step func(tree.Tree) (tree.Tree, []api.Out)

// onOf answers On of a place.
func onOf(i int) step {
	return func(x tree.Tree) (tree.Tree, []api.Out) { return mgmt.On(x, i) }
}

// offOf answers Off of a place.
func offOf(i int) step {
	return func(x tree.Tree) (tree.Tree, []api.Out) { return mgmt.Off(x, i) }
}

// costOf answers Cost of a place, which is wanted to answer that error.
func costOf(t *testing.T, i int, cost uint32, want api.Errno) step {
	return func(x tree.Tree) (tree.Tree, []api.Out) {
		t.Helper()
		got, out, e := mgmt.Cost(x, i, cost)
		if e != want {
			t.Fatalf("Cost of\n%+v, port %d, %d: the error %d, want %d", x, i, cost, e, want)
		}
		return got, out
	}
}

// prioOf answers Prio of a priority.
func prioOf(prio uint16) step {
	return func(x tree.Tree) (tree.Tree, []api.Out) { return mgmt.Prio(x, prio) }
}

// check makes a call twice, as what it answers hangs on the view alone, and
// once more of one with spare room behind its ports, that isn't empty.
func check(t *testing.T, name string, call step, x, want tree.Tree, out []api.Out) {
	t.Helper()
	checkOnce(t, name, call, x, want, out)
	checkOnce(t, name, call, x, want, out)
	roomy := append(slices.Clone(x.Ports), ownPort(900), ownPort(901), ownPort(902))
	x.Ports = roomy[:len(x.Ports)]
	checkOnce(t, name, call, x, want, out)
}

// checkOnce holds what a call answers against what is wanted. Then it writes
// over all that goes out, and over the ports, which nothing else may share.
func checkOnce(t *testing.T, name string, call step, x, want tree.Tree, out []api.Out) {
	t.Helper()
	had := slices.Clone(x.Ports[:cap(x.Ports)])
	got, sent := call(x)
	if !same(got, want) {
		t.Fatalf("%s of\n%+v is\n%+v, want\n%+v", name, x, got, want)
	}
	if !sameOut(sent, out) {
		t.Fatalf("%s of\n%+v: there goes out\n%x, want\n%x", name, x, sent, out)
	}
	checkNewMemory(t, name, sent, out)
	if !same(got, want) {
		t.Fatalf("%s: the view shares memory with what goes out", name)
	}
	if !slices.Equal(got.Ports, x.Ports) {
		clear(got.Ports[:cap(got.Ports)])
	}
	if now := x.Ports[:cap(x.Ports)]; !slices.Equal(now, had) {
		t.Fatalf("%s changes, or hands out, the ports\n%+v: now\n%+v", name, had, now)
	}
}

// checkNewMemory writes over the data of each frame that goes out, spare room
// included: that of the ones behind it stays what it was.
func checkNewMemory(t *testing.T, name string, sent, out []api.Out) {
	t.Helper()
	for i := range sent {
		data := sent[i].Frame.Data
		for j := range data[:cap(data)] {
			data[:cap(data)][j] = 0xa5
		}
		if !sameOut(sent[i+1:], out[i+1:]) {
			t.Fatalf("%s: the frame %d shares memory with one behind it", name, i)
		}
	}
	clear(sent[:cap(sent)])
}

// checkNothing wants the view as it was, and that nothing goes out.
func checkNothing(t *testing.T, name string, call step, x tree.Tree) {
	t.Helper()
	check(t, name, call, x, x, nil)
}

// goesOut is what goes out by a port from my address, by these bytes.
func goesOut(port int, b ...byte) api.Out {
	data := append([]byte{0x42, 0x42, 3}, b...)
	return api.Out{Port: port, Frame: api.Frame{To: 0x0180c2000000, From: mine, Kind: uint16(len(data)), Data: data}}
}

// tcnBy is the TCN that goes out by a port from my address.
func tcnBy(i int) api.Out {
	return goesOut(i, 0, 0, 0, 0x80)
}

// told lets the ports at these places of a view that is wanted have told their
// configurations, of the Age 0, and answers what goes out.
func told(want *tree.Tree, places ...int) []api.Out {
	var out []api.Out
	for _, i := range places {
		out = append(out, configured(*want, i).out(i))
		p := &want.Ports[i]
		p.Ack, p.Pending, p.Hold = false, false, runs(0)
	}
	return out
}

// unsettled answers a view of ports at 0 and on, in which nothing is as a view
// that settles would have it: who is the root is forgotten, that at 1 is
// designated and blocked, that at 2 holds another bridge's telling and forwards.
func unsettled(x tree.Tree) tree.Tree {
	return with(x, func(x *tree.Tree) {
		x.Root, x.Cost, x.RootPort = 99, 98, 97
		tells(x, 1)
		x.Ports[1].State, x.Ports[1].Age = blocking, runs(70)
		x.Ports[2].State, x.Ports[2].Age = forwarding, runs(71)
		x.Ports[2].Held = rank.Vector{Root: other, Cost: 3, Bridge: next + 2, Port: 0x8009}
	})
}
