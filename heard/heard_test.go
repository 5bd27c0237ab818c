package heard_test

import (
	"math"
	"reflect"
	"slices"
	"testing"

	"treeline/api"
	"treeline/heard"
	"treeline/rank"
	"treeline/tree"
)

// The states by their numbers, written out apart from the package's names.
const (
	disabled = iota
	blocking
	listening
	learning
	forwarding
)

// The errors by their numbers.
const (
	fine     = 0
	errShort = 2
	errForm  = 3
	errLong  = 4
	errAge   = 5
	errOwn   = 6
	errNone  = 8
)

// me is the bridge's own number in most views, and mine its address; other is
// the root's number of those that others lead, and next the bridge's ahead.
const (
	me    = 0x8001_0203_0405_0607
	mine  = 0x0203_0405_0607
	other = 0x1234
	next  = 0x5678
)

// longest is the greatest Value of a timer.
const longest = 1 << 30

// anyStates are the five states, and numbers that none of them has.
var anyStates = []int{disabled, blocking, listening, learning, forwarding, -1, 5, 256, 1 << 32, math.MinInt, math.MaxInt}

// noPlaces are numbers at which no view of up to a thousand ports has one.
var noPlaces = []int{math.MinInt, -1 << 32, -1000, -257, -256, -2, -1, 1000, 1001, 1 << 16, 1 << 32, 1<<32 + 1, math.MaxInt}

// rests is a timer that rests, made without the layers below.
var rests = api.Timer{}

// runs answers a timer that has run that long.
func runs(value int) api.Timer {
	return api.Timer{On: true, Value: value}
}

// someTimers answers timers that rest and run, at 0, at the greatest Value, and between.
func someTimers() []api.Timer {
	return []api.Timer{rests, runs(0), runs(256), runs(512), runs(longest)}
}

// fullPort answers a port that is designated for me, whose Hold rests, and
// none of whose other fields is 0 or false. Four of them have four states.
func fullPort(i int) api.Port {
	id := api.PortId(0x8001 + i)
	return api.Port{
		Id: id, State: blocking + i%4, Cost: uint32(20*i + 19),
		Held: rank.Vector{Root: me, Cost: 0, Bridge: me, Port: id},
		Ack:  true, Pending: true,
		Age: runs(20*i + 5), Delay: runs(20*i + 6), Hold: rests,
	}
}

// aloneView answers a view of so many ports of a bridge that takes itself for
// the root; all of them are designated, and nothing was detected.
func aloneView(ports int) tree.Tree {
	x := tree.Tree{
		Own: me, Root: me, Cost: 0, RootPort: -1,
		Now:  tree.Times{MaxAge: 5121, Hello: 513, Delay: 3841},
		Mine: tree.Times{MaxAge: 4662, Hello: 774, Delay: 2310}, Hello: runs(31), Tcn: runs(32), Told: runs(33),
	}
	for i := range ports {
		x.Ports = append(x.Ports, fullPort(i))
	}
	return x
}

// ledView answers a view of so many ports, at least one, of which that at 0
// leads to the root, 77 far, heard of 1000 256ths of a second ago; that at 3,
// if there is one, isn't designated; all others are.
func ledView(ports int) tree.Tree {
	x := aloneView(ports)
	x.Root, x.Cost, x.RootPort = other, 77, 0
	for i := range x.Ports {
		x.Ports[i].Held.Root, x.Ports[i].Held.Cost = other, 77
	}
	x.Ports[0].Held = rank.Vector{Root: other, Cost: 58, Bridge: next, Port: 0x8003}
	x.Ports[0].Age = runs(1000)
	if ports > 3 {
		x.Ports[3].Held = rank.Vector{Root: other, Cost: 66, Bridge: next + 1, Port: 0x8004}
		x.Ports[3].State = blocking
	}
	return x
}

// telling is a configuration that a port's LAN was told, to be changed; none
// of its times is one of the views', and neither flag is set.
func telling(root api.BridgeId, cost uint32, bridge api.BridgeId, port api.PortId) api.Bpdu {
	return api.Bpdu{Root: root, Cost: cost, Bridge: bridge, Port: port, Age: 512, MaxAge: 2560, Hello: 300, Delay: 1300}
}

// own answers the view with ports of its own, made without the layers below.
func own(x tree.Tree) tree.Tree {
	x.Ports = slices.Clone(x.Ports)
	return x
}

// with answers the view, its ports its own, changed.
func with(x tree.Tree, change func(x *tree.Tree)) tree.Tree {
	x = own(x)
	change(&x)
	return x
}

// same tells whether two views are alike, without asking the layers below.
func same(a, b tree.Tree) bool {
	p, q := a.Ports, b.Ports
	a.Ports, b.Ports = nil, nil
	return reflect.DeepEqual(a, b) && slices.Equal(p, q)
}

// sameOut tells whether the same frames go out by the same ports, in the same order.
func sameOut(a, b []api.Out) bool {
	return slices.EqualFunc(a, b, func(x, y api.Out) bool {
		return x.Port == y.Port && x.Frame.To == y.Frame.To && x.Frame.From == y.Frame.From &&
			x.Frame.Kind == y.Frame.Kind && slices.Equal(x.Frame.Data, y.Frame.Data)
	})
}

// A step is a call of this layer that answers a view, and what goes out.
type step func(tree.Tree) (tree.Tree, []api.Out)

// configOf answers Config of a place.
func configOf(i int, b api.Bpdu) step {
	return func(x tree.Tree) (tree.Tree, []api.Out) { return heard.Config(x, i, b) }
}

// tcnOf answers Tcn of a place.
func tcnOf(i int) step {
	return func(x tree.Tree) (tree.Tree, []api.Out) { return heard.Tcn(x, i) }
}

// bytesOf answers Bytes of a place, which is wanted to answer that error. The
// bytes are handed in with spare room that isn't empty, and written over
// behind the call, as nothing that it answers may share them.
func bytesOf(t *testing.T, i int, b []byte, want api.Errno) step {
	return func(x tree.Tree) (tree.Tree, []api.Out) {
		t.Helper()
		room := append(slices.Clone(b), 0xde, 0xad, 0xbe, 0xef)
		had := slices.Clone(room)
		got, out, e := heard.Bytes(x, i, room[:len(b)])
		if e != want {
			t.Fatalf("Bytes of\n%+v, port %d, %x: the error %d, want %d", x, i, b, e, want)
		}
		if !slices.Equal(room, had) {
			t.Fatalf("Bytes changes the bytes\n%x to\n%x", had, room)
		}
		for j := range room {
			room[j] = 0x5a
		}
		return got, out
	}
}

// check makes a call twice, as what it answers hangs on the view alone, and
// once more of one with spare room behind its ports, that isn't empty.
func check(t *testing.T, name string, call step, x, want tree.Tree, out []api.Out) {
	t.Helper()
	checkOnce(t, name, call, x, want, out)
	checkOnce(t, name, call, x, want, out)
	roomy := append(slices.Clone(x.Ports), fullPort(900), fullPort(901), fullPort(902))
	x.Ports = roomy[:len(x.Ports)]
	checkOnce(t, name, call, x, want, out)
}

// checkOnce holds what a call answers against what is wanted. Then it writes
// over all that goes out, and over the ports, which nothing else may share.
func checkOnce(t *testing.T, name string, call step, x, want tree.Tree, out []api.Out) {
	t.Helper()
	had := slices.Clone(x.Ports[:cap(x.Ports)])
	got, sent := call(x)
	if !same(got, want) {
		t.Fatalf("%s of\n%+v is\n%+v, want\n%+v", name, x, got, want)
	}
	if !sameOut(sent, out) {
		t.Fatalf("%s of\n%+v: there goes out\n%x, want\n%x", name, x, sent, out)
	}
	checkNewMemory(t, name, sent, out)
	if !same(got, want) {
		t.Fatalf("%s: the view shares memory with what goes out", name)
	}
	if !slices.Equal(got.Ports, x.Ports) {
		clear(got.Ports[:cap(got.Ports)])
	}
	if now := x.Ports[:cap(x.Ports)]; !slices.Equal(now, had) {
		t.Fatalf("%s changes, or hands out, the ports\n%+v: now\n%+v", name, had, now)
	}
}

// checkNewMemory writes over the data of each frame that goes out, spare room
// included: that of the ones behind it stays what it was.
func checkNewMemory(t *testing.T, name string, sent, out []api.Out) {
	t.Helper()
	for i := range sent {
		data := sent[i].Frame.Data
		for j := range data[:cap(data)] {
			data[:cap(data)][j] = 0xa5
		}
		if !sameOut(sent[i+1:], out[i+1:]) {
			t.Fatalf("%s: the frame %d shares memory with one behind it", name, i)
		}
	}
	clear(sent[:cap(sent)])
}

// checkNothing wants the view as it was, and that nothing goes out.
func checkNothing(t *testing.T, name string, call step, x tree.Tree) {
	t.Helper()
	check(t, name, call, x, x, nil)
}

// goesOut is what goes out by a port from my address, by these bytes.
func goesOut(port int, b ...byte) api.Out {
	data := append([]byte{0x42, 0x42, 3}, b...)
	return api.Out{Port: port, Frame: api.Frame{To: 0x0180c2000000, From: mine, Kind: uint16(len(data)), Data: data}}
}

// tcnBy is the TCN that goes out by a port from my address.
func tcnBy(i int) api.Out {
	return goesOut(i, 0, 0, 0, 0x80)
}

// told lets the ports at these places of a view that is wanted have told their
// configurations, of that Age, and answers what goes out.
func told(want *tree.Tree, age uint16, places ...int) []api.Out {
	var out []api.Out
	for _, i := range places {
		c := configured(*want, i)
		c.age = age
		out = append(out, c.out(i))
		p := &want.Ports[i]
		p.Ack, p.Pending, p.Hold = false, false, runs(0)
	}
	return out
}

// 15.1: Settle.

// unsettled answers a view in which nothing is as Settle would leave it: who the
// root is, and how far, is forgotten, and so is what is told to the LANs.
func unsettled(x tree.Tree) tree.Tree {
	return with(x, func(x *tree.Tree) {
		x.Root, x.Cost, x.RootPort = 99, 98, 97
		for i := range x.Ports {
			if p := &x.Ports[i]; p.Held.Bridge == me && p.Held.Port == p.Id {
				p.Held.Root, p.Held.Cost = 96, 95
			}
		}
	})
}

// TestSettleOfTheRoot has a bridge none of whose ports holds anything but its
// own: all rise, none was lost.
func TestSettleOfTheRoot(t *testing.T) {
	for _, detected := range []bool{false, true} {
		x := aloneView(4)
		x.Detected = detected
		want := own(x)
		for i := range want.Ports {
			want.Ports[i].Age = rests
		}
		want.Ports[0].State, want.Ports[0].Delay = listening, runs(0)
		check(t, "Settle", heard.Settle, unsettled(x), want, nil)
	}
}

// TestSettleOfAnother has one that a port leads to the root: that one and the
// designated ones rise, and one that is neither stays blocked.
func TestSettleOfAnother(t *testing.T) {
	for _, detected := range []bool{false, true} {
		x := ledView(4)
		x.Detected = detected
		want := own(x)
		want.Ports[0].State, want.Ports[0].Delay = listening, runs(0)
		want.Ports[1].Age, want.Ports[2].Age = rests, rests
		for _, i := range []int{0, 3} {
			want.Ports[i].Ack, want.Ports[i].Pending = false, false
		}
		check(t, "Settle", heard.Settle, unsettled(x), want, nil)
	}
}

// TestSettleWhereSomethingIsLost lets one port hold what another bridge tells,
// or another port of its own: a Learning one and a Forwarding one are lost,
// a Listening one isn't. The root tells of it; any other one tells the root.
func TestSettleWhereSomethingIsLost(t *testing.T) {
	for _, state := range anyStates {
		for flags := range 4 {
			detected, root := flags&1 != 0, flags&2 != 0
			x := ledView(3)
			x.Ports[2].Held = rank.Vector{Root: other, Cost: 77, Bridge: me - 1, Port: 0x8009}
			if root {
				x = aloneView(3)
				x.Ports[2].Held.Port = 0x8001
			}
			x.Detected, x.Ports[2].State = detected, state
			x.Ports[0].State = forwarding
			want := own(x)
			for i := range want.Ports {
				if i == x.RootPort || i == 2 {
					want.Ports[i].Ack, want.Ports[i].Pending = false, false
				} else {
					want.Ports[i].Age = rests
				}
			}
			var out []api.Out
			if state != disabled && state != blocking {
				want.Ports[2].State, want.Ports[2].Delay = blocking, rests
			}
			lost := state == learning || state == forwarding
			switch {
			case lost && root:
				want.Detected, want.Change, want.Told = true, true, runs(0)
			case lost && !detected:
				want.Detected, want.Tcn = true, runs(0)
				out = []api.Out{tcnBy(0)}
			}
			check(t, "Settle", heard.Settle, unsettled(x), want, out)
		}
	}
}

// TestSettleTellsWhoIsTheRootByThen has a bridge that takes itself for the
// root, and doesn't once it has settled, and the other way round; both lose a
// port.
func TestSettleTellsWhoIsTheRootByThen(t *testing.T) {
	x := ledView(4)
	x.Ports[3].State = forwarding
	want, out := plainSettle(x)
	if !want.Detected || want.Tcn != runs(0) || want.Told != runs(33) || want.Change || !sameOut(out, []api.Out{tcnBy(0)}) {
		t.Fatalf("Settle should be\n%+v, and there go out %x", want, out)
	}
	x.Root, x.Cost, x.RootPort = me, 0, -1
	check(t, "Settle", heard.Settle, x, want, out)

	x = aloneView(3)
	x.Ports[2].Held.Port, x.Ports[2].State = 0x8001, learning
	want, out = plainSettle(x)
	if !want.Detected || !want.Change || want.Told != runs(0) || want.Tcn != runs(32) || len(out) != 0 {
		t.Fatalf("Settle should be\n%+v, and there go out %x", want, out)
	}
	x.Root, x.Cost, x.RootPort = other, 77, 0
	check(t, "Settle", heard.Settle, x, want, out)
}

// TestSettleOfTwoLost loses two ports at once: one TCN goes out.
func TestSettleOfTwoLost(t *testing.T) {
	x := ledView(4)
	x.Ports[0].State = forwarding
	for _, i := range []int{1, 2, 3} {
		x.Ports[i].Held = rank.Vector{Root: other, Cost: 66, Bridge: next, Port: api.PortId(i)}
		x.Ports[i].State = forwarding
	}
	want := own(x)
	want.Detected, want.Tcn = true, runs(0)
	want.Ports[0].Ack, want.Ports[0].Pending = false, false
	for _, i := range []int{1, 2, 3} {
		p := &want.Ports[i]
		p.State, p.Delay, p.Ack, p.Pending = blocking, rests, false, false
	}
	check(t, "Settle", heard.Settle, x, want, []api.Out{tcnBy(0)})
	checkNothing(t, "Settle", heard.Settle, want)
}

// TestSettleOfNoPorts has a bridge without a port: it is the root.
func TestSettleOfNoPorts(t *testing.T) {
	checkNothing(t, "Settle", heard.Settle, aloneView(0))
	x := aloneView(0)
	x.Root, x.Cost, x.RootPort = other, 5, 0
	check(t, "Settle", heard.Settle, x, aloneView(0), nil)
	check(t, "Settle", heard.Settle, tree.Tree{}, tree.Tree{RootPort: -1}, nil)
}

// TestSettleTellsNoConfigurations has ports that owe one, and whose Hold rests.
func TestSettleTellsNoConfigurations(t *testing.T) {
	for _, x := range []tree.Tree{aloneView(1000), ledView(1000)} {
		want, out := plainSettle(x)
		if len(out) != 0 {
			t.Fatalf("there go out %x", out)
		}
		checkOnce(t, "Settle", heard.Settle, x, want, nil)
	}
}

// 15.1: Lead.

// leading is what a view of a bridge that takes itself for the root is when it
// leads from now on, but for its ports.
func leading(x tree.Tree) tree.Tree {
	x = own(x)
	x.Now = x.Mine
	x.Detected, x.Change, x.Told = true, true, runs(0)
	x.Tcn, x.Hello = rests, runs(0)
	return x
}

// TestLead tells byte by byte what goes out of a bridge whose own times
// aren't those that held ahead of it: they are its own, and a change is told.
func TestLead(t *testing.T) {
	x := aloneView(2)
	x.Ports[1].Ack = false
	want := leading(x)
	for i := range want.Ports {
		want.Ports[i].Ack, want.Ports[i].Pending, want.Ports[i].Hold = false, false, runs(0)
	}
	check(t, "Lead", heard.Lead, x, want, []api.Out{
		goesOut(0, 0, 0, 0, 0, 0x81, 0x80, 1, 2, 3, 4, 5, 6, 7, 0, 0, 0, 0, 0x80, 1, 2, 3, 4, 5, 6, 7, 0x80, 1, 0, 0, 0x12, 0x36, 3, 6, 9, 6),
		goesOut(1, 0, 0, 0, 0, 0x01, 0x80, 1, 2, 3, 4, 5, 6, 7, 0, 0, 0, 0, 0x80, 1, 2, 3, 4, 5, 6, 7, 0x80, 2, 0, 0, 0x12, 0x36, 3, 6, 9, 6),
	})
}

// TestLeadOfEachTimer lets each timer run or rest, and a change be detected,
// or told, or not, each alone.
func TestLeadOfEachTimer(t *testing.T) {
	for flags := range 4 {
		for _, hello := range someTimers() {
			for _, running := range someTimers() {
				for _, since := range someTimers() {
					x := aloneView(2)
					x.Detected, x.Change = flags&1 != 0, flags&2 != 0
					x.Hello, x.Tcn, x.Told = hello, running, since
					want := leading(x)
					out := told(&want, 0, 0, 1)
					checkOnce(t, "Lead", heard.Lead, x, want, out)
				}
			}
		}
	}
}

// TestLeadOfEachTime lets Now's times be Mine's or others, each alone. The
// MaxAge that held ahead of it keeps nobody from telling.
func TestLeadOfEachTime(t *testing.T) {
	for _, now := range []tree.Times{{}, {MaxAge: 4662}, {Hello: 774}, {Delay: 2310}, {MaxAge: 4662, Hello: 774, Delay: 2310}, {MaxAge: -1, Hello: -1, Delay: -1}, {MaxAge: 65535, Hello: 65535, Delay: 65535}} {
		x := aloneView(3)
		x.Now = now
		want := leading(x)
		out := told(&want, 0, 0, 1, 2)
		check(t, "Lead", heard.Lead, x, want, out)
	}
	x := aloneView(3)
	x.Mine.MaxAge = 0
	check(t, "Lead", heard.Lead, x, leading(x), nil)
}

// TestLeadWhileHoldRuns lets each of four ports' Hold run or rest: those tell
// whose Hold rests, the others owe it.
func TestLeadWhileHoldRuns(t *testing.T) {
	for which := range 1 << 4 {
		for owes := range 4 {
			x := aloneView(4)
			var rest []int
			for i := range x.Ports {
				p := &x.Ports[i]
				p.Ack, p.Pending = owes&1 != 0, owes&2 != 0
				if which>>i&1 != 0 {
					p.Hold = runs(64 * i)
					continue
				}
				rest = append(rest, i)
			}
			want := leading(x)
			for i := range want.Ports {
				if which>>i&1 != 0 {
					want.Ports[i].Pending = true
				}
			}
			out := told(&want, 0, rest...)
			check(t, "Lead", heard.Lead, x, want, out)
		}
	}
}

// TestLeadOfThoseThatAre has ports that aren't designated, or are Disabled:
// they tell nothing, and are as they were; no port's state is otherwise.
func TestLeadOfThoseThatAre(t *testing.T) {
	for _, state := range anyStates {
		x := aloneView(4)
		x.Ports[1].State = state
		x.Ports[2].Held.Bridge--
		x.Ports[3].Held.Port = 0x8001
		want := leading(x)
		out := told(&want, 0, 0)
		if state != disabled {
			out = append(out, told(&want, 0, 1)...)
		}
		check(t, "Lead", heard.Lead, x, want, out)
	}
	check(t, "Lead", heard.Lead, aloneView(0), leading(aloneView(0)), nil)
}

// TestLeadOfAThousand has a thousand ports: all tell, in order.
func TestLeadOfAThousand(t *testing.T) {
	x := aloneView(1000)
	want := leading(x)
	all := make([]int, 1000)
	for i := range all {
		all[i] = i
	}
	out := told(&want, 0, all...)
	checkOnce(t, "Lead", heard.Lead, x, want, out)
}
