package send_test

import (
	"math"
	"reflect"
	"slices"
	"testing"

	"treeline/api"
	"treeline/rank"
	"treeline/send"
	"treeline/tree"
)

// The states by their numbers, written out apart from the package's names.
const (
	disabled = iota
	blocking
	listening
	learning
	forwarding
)

// me is the bridge's own number in most views, and mine its address.
const (
	me   = 0x8001_0203_0405_0607
	mine = 0x0203_0405_0607
)

// longest is the greatest Value of a timer.
const longest = 1 << 30

// anyStates are the five states, and numbers that none of them has.
var anyStates = []int{disabled, blocking, listening, learning, forwarding, -1, 5, 256, 1 << 32, math.MinInt, math.MaxInt}

// noPlaces are numbers at which no view of up to a thousand ports has one.
var noPlaces = []int{math.MinInt, -1 << 32, -1000, -257, -256, -2, -1, 1000, 1001, 1 << 16, 1 << 32, 1<<32 + 1, math.MaxInt}

// rests is a timer that rests, made without the layer below.
var rests = api.Timer{}

// runs answers a timer that has run that long.
func runs(value int) api.Timer {
	return api.Timer{On: true, Value: value}
}

// fullPort answers a port that is designated for me, whose Hold rests, and
// none of whose other fields is 0 or false.
func fullPort(i int) api.Port {
	id := api.PortId(0x8001 + i)
	return api.Port{
		Id: id, State: blocking + i%4, Cost: uint32(20*i + 19),
		Held: rank.Vector{Root: 0x1234, Cost: 77, Bridge: me, Port: id},
		Ack:  true, Pending: true,
		Age: runs(20*i + 5), Delay: runs(20*i + 6), Hold: rests,
	}
}

// aloneView answers a view of so many ports of a bridge that takes itself for
// the root; all of them are designated.
func aloneView(ports int) tree.Tree {
	x := tree.Tree{
		Own: me, Root: me, Cost: 0, RootPort: -1,
		Now:  tree.Times{MaxAge: 5121, Hello: 513, Delay: 3841},
		Mine: tree.Times{MaxAge: 4662, Hello: 774, Delay: 2310}, Hello: runs(31), Tcn: runs(32), Told: runs(33),
	}
	for i := range ports {
		x.Ports = append(x.Ports, fullPort(i))
		x.Ports[i].Held.Root, x.Ports[i].Held.Cost = me, 0
	}
	return x
}

// ledView answers a view of so many ports, at least one, of which that at 0
// leads to the root, heard of 1000 256ths of a second ago.
func ledView(ports int) tree.Tree {
	x := aloneView(ports)
	x.Root, x.Cost, x.RootPort = 0x1234, 77, 0
	for i := range x.Ports {
		x.Ports[i].Held.Root, x.Ports[i].Held.Cost = 0x1234, 77
	}
	x.Ports[0].Held = rank.Vector{Root: 0x1234, Cost: 58, Bridge: 0x5678, Port: 0x8003}
	x.Ports[0].Age = runs(1000)
	return x
}

// own answers the view with ports of its own, made without the layer below.
func own(x tree.Tree) tree.Tree {
	x.Ports = slices.Clone(x.Ports)
	return x
}

// with answers the view, its ports its own, changed.
func with(x tree.Tree, change func(x *tree.Tree)) tree.Tree {
	x = own(x)
	change(&x)
	return x
}

// same tells whether two views are alike, without asking the layer below.
func same(a, b tree.Tree) bool {
	p, q := a.Ports, b.Ports
	a.Ports, b.Ports = nil, nil
	return reflect.DeepEqual(a, b) && slices.Equal(p, q)
}

// sameOut tells whether the same frames go out by the same ports, in the same order.
func sameOut(a, b []api.Out) bool {
	return slices.EqualFunc(a, b, func(x, y api.Out) bool {
		return x.Port == y.Port && x.Frame.To == y.Frame.To && x.Frame.From == y.Frame.From &&
			x.Frame.Kind == y.Frame.Kind && slices.Equal(x.Frame.Data, y.Frame.Data)
	})
}

// A step is a call of this layer that answers a view, and what goes out.
type step func(tree.Tree) (tree.Tree, []api.Out)

// configOf answers Config of a place.
func configOf(i int) step {
	return func(x tree.Tree) (tree.Tree, []api.Out) { return send.Config(x, i) }
}

// tcn is Tcn; the view is as it was.
func tcn(x tree.Tree) (tree.Tree, []api.Out) {
	return x, send.Tcn(x)
}

// acked is Acked; nothing goes out.
func acked(x tree.Tree) (tree.Tree, []api.Out) {
	return send.Acked(x), nil
}

// check makes a call twice, as what it answers hangs on the view alone, and
// once more of one with spare room behind its ports, that isn't empty.
func check(t *testing.T, name string, call step, x, want tree.Tree, out []api.Out) {
	t.Helper()
	checkOnce(t, name, call, x, want, out)
	checkOnce(t, name, call, x, want, out)
	roomy := append(slices.Clone(x.Ports), fullPort(900), fullPort(901), fullPort(902))
	x.Ports = roomy[:len(x.Ports)]
	checkOnce(t, name, call, x, want, out)
}

// checkOnce holds what a call answers against what is wanted. Then it writes
// over all that goes out, which nothing else may share.
func checkOnce(t *testing.T, name string, call step, x, want tree.Tree, out []api.Out) {
	t.Helper()
	had := slices.Clone(x.Ports[:cap(x.Ports)])
	got, sent := call(x)
	if !same(got, want) {
		t.Fatalf("%s of\n%+v is\n%+v, want\n%+v", name, x, got, want)
	}
	if !sameOut(sent, out) {
		t.Fatalf("%s of\n%+v: there goes out\n%x, want\n%x", name, x, sent, out)
	}
	checkNewMemory(t, name, sent, out)
	if !same(got, want) {
		t.Fatalf("%s: the view shares memory with what goes out", name)
	}
	if now := x.Ports[:cap(x.Ports)]; !slices.Equal(now, had) {
		t.Fatalf("%s changes the ports\n%+v to\n%+v", name, had, now)
	}
}

// checkNewMemory writes over the data of each frame that goes out, spare room
// included: that of the ones behind it stays what it was.
func checkNewMemory(t *testing.T, name string, sent, out []api.Out) {
	t.Helper()
	for i := range sent {
		data := sent[i].Frame.Data
		for j := range data[:cap(data)] {
			data[:cap(data)][j] = 0xa5
		}
		if !sameOut(sent[i+1:], out[i+1:]) {
			t.Fatalf("%s: the frame %d shares memory with one behind it", name, i)
		}
	}
	clear(sent[:cap(sent)])
}

// checkNothing wants the view as it was, and that nothing goes out.
func checkNothing(t *testing.T, name string, call step, x tree.Tree) {
	t.Helper()
	check(t, name, call, x, x, nil)
}

// goesOut is what goes out by a port from my address, by these bytes.
func goesOut(port int, b ...byte) api.Out {
	data := append([]byte{0x42, 0x42, 3}, b...)
	return api.Out{Port: port, Frame: api.Frame{To: 0x0180c2000000, From: mine, Kind: uint16(len(data)), Data: data}}
}

// 14.1: Limit.

func TestLimit(t *testing.T) {
	if got := send.Limit(); got != 256 {
		t.Errorf("Limit() = %d, want 256", got)
	}
}

// 14.1: Config.

// TestConfig tells what goes out byte by byte, of a bridge that a port leads
// to the root and of one that takes itself for it.
func TestConfig(t *testing.T) {
	x := ledView(3)
	want := own(x)
	want.Ports[1].Pending, want.Ports[1].Ack, want.Ports[1].Hold = false, false, runs(0)
	check(t, "Config", configOf(1), x, want, []api.Out{goesOut(1,
		0, 0, 0, 0, 0x80,
		0, 0, 0, 0, 0, 0, 0x12, 0x34, 0, 0, 0, 77, 0x80, 1, 2, 3, 4, 5, 6, 7,
		0x80, 2, 4, 0xe8, 0x14, 1, 2, 1, 0x0f, 1)})

	x = aloneView(3)
	x.Change = true
	x.Ports[2].Ack = false
	want = own(x)
	want.Ports[2].Pending, want.Ports[2].Hold = false, runs(0)
	check(t, "Config", configOf(2), x, want, []api.Out{goesOut(2,
		0, 0, 0, 0, 1,
		0x80, 1, 2, 3, 4, 5, 6, 7, 0, 0, 0, 0, 0x80, 1, 2, 3, 4, 5, 6, 7,
		0x80, 3, 0, 0, 0x14, 1, 2, 1, 0x0f, 1)})
}

// TestConfigOfNoPort asks for places below 0, of the number of ports, and
// beyond, whether Hold of the ports there are rests or runs.
func TestConfigOfNoPort(t *testing.T) {
	for ports := range 5 {
		for _, place := range append([]int{ports, ports + 1, ports + 256, ports - 256, ports + 1<<32}, noPlaces...) {
			x := aloneView(ports)
			checkNothing(t, "Config", configOf(place), x)
			for i := range x.Ports {
				x.Ports[i].Hold, x.Ports[i].Pending = runs(0), false
			}
			checkNothing(t, "Config", configOf(place), x)
			x.Root, x.RootPort = 0x1234, place
			checkNothing(t, "Config", configOf(place), x)
		}
	}
	checkNothing(t, "Config", configOf(0), tree.Tree{})
	checkNothing(t, "Config", configOf(1000), ledView(1000))
}

// TestConfigOfEachPort lets each port there is tell, in views of up to a
// thousand of them: it is by that one, and of that one's number and Ack.
func TestConfigOfEachPort(t *testing.T) {
	for _, ports := range []int{1, 2, 4, 1000} {
		for _, x := range []tree.Tree{ledView(ports), aloneView(ports)} {
			for i := range ports {
				x.Ports[i].Ack = i%3 == 0
			}
			for i := range ports {
				want, out := plainConfig(x, i)
				if len(out) != 1 || out[0].Port != i {
					t.Fatalf("the port %d of %d doesn't tell", i, ports)
				}
				checkOnce(t, "Config", configOf(i), x, want, out)
			}
		}
	}
}

// TestConfigWhileHoldRuns has ports that owe this and that: each owes a
// configuration then, and nothing else is otherwise, however long Hold has
// run, and be what would be told too old.
func TestConfigWhileHoldRuns(t *testing.T) {
	for _, hold := range []int{0, 1, 255, 256, 257, 5120, longest} {
		for owes := range 4 {
			for _, maxAge := range []int{0, 1256, 1257, 65535} {
				for i := range 3 {
					x := ledView(3)
					x.Now.MaxAge = maxAge
					x.Ports[i].Ack, x.Ports[i].Pending = owes&1 != 0, owes&2 != 0
					x.Ports[i].Hold = runs(hold)
					want := own(x)
					want.Ports[i].Pending = true
					check(t, "Config", configOf(i), x, want, nil)
				}
			}
		}
	}
}

// TestConfigWhileHoldRests lets Pending and Ack be owed or not, each alone:
// neither is then, and Hold runs from 0, where it goes out; where what would
// be told is too old, each stays.
func TestConfigWhileHoldRests(t *testing.T) {
	for owes := range 4 {
		for i := range 3 {
			x := ledView(3)
			x.Ports[i].Ack, x.Ports[i].Pending = owes&1 != 0, owes&2 != 0
			want := own(x)
			want.Ports[i].Ack, want.Ports[i].Pending, want.Ports[i].Hold = false, false, runs(0)
			told := configured(x, i)
			told.ack = x.Ports[i].Ack
			told.age = 1256
			check(t, "Config", configOf(i), x, want, []api.Out{told.out(i)})

			x.Now.MaxAge = 1256
			checkNothing(t, "Config", configOf(i), x)
		}
	}
}

// TestConfigOfAnotherPortsHold has each other port's Hold run, and each other one owe nothing.
func TestConfigOfAnotherPortsHold(t *testing.T) {
	x := ledView(4)
	for i := range x.Ports {
		if i != 2 {
			x.Ports[i].Hold = runs(10 * i)
			x.Ports[i].Ack, x.Ports[i].Pending = false, false
		}
	}
	want := own(x)
	want.Ports[2].Ack, want.Ports[2].Pending, want.Ports[2].Hold = false, false, runs(0)
	told := configured(x, 2)
	told.age = 1256
	check(t, "Config", configOf(2), x, want, []api.Out{told.out(2)})
}

// TestConfigLooksAtNoState has a port that is in any state, and that is
// designated or isn't: Config lets it tell, whoever asks for it.
func TestConfigLooksAtNoState(t *testing.T) {
	for _, state := range anyStates {
		for _, held := range []rank.Vector{{}, {Root: 1, Cost: 1, Bridge: 1, Port: 1}, {Root: me, Bridge: me, Port: 0x8002}, {Root: me, Bridge: me, Port: 0x8003}} {
			for _, x := range []tree.Tree{ledView(3), aloneView(3)} {
				x.Ports[1].State, x.Ports[1].Held = state, held
				want, out := plainConfig(x, 1)
				if len(out) != 1 {
					t.Fatalf("the port doesn't tell")
				}
				check(t, "Config", configOf(1), x, want, out)
			}
		}
	}
}

// checkAge wants the port 1 to tell that age; -1: nothing goes out.
func checkAge(t *testing.T, x tree.Tree, age int) {
	t.Helper()
	if age < 0 {
		checkNothing(t, "Config", configOf(1), x)
		return
	}
	want := own(x)
	want.Ports[1].Ack, want.Ports[1].Pending, want.Ports[1].Hold = false, false, runs(0)
	told := configured(x, 1)
	told.age = uint16(age)
	check(t, "Config", configOf(1), x, want, []api.Out{told.out(1)})
}

// TestConfigHowOld lets what leads to the root be as old as may be told, too
// old by as little as may be, and by much.
func TestConfigHowOld(t *testing.T) {
	for _, c := range []struct {
		age    api.Timer
		maxAge int
		want   int
	}{
		{rests, 257, 256}, {rests, 256, -1}, {rests, 255, -1}, {rests, 5120, 256},
		{runs(0), 257, 256}, {runs(0), 256, -1}, {runs(0), 255, -1}, {runs(0), 1, -1}, {runs(0), 0, -1}, {runs(0), -1, -1}, {runs(0), 65535, 256},
		{runs(1), 258, 257}, {runs(1), 257, -1}, {runs(1), 256, -1},
		{runs(256), 513, 512}, {runs(256), 512, -1}, {runs(256), 511, -1},
		{runs(4863), 5120, 5119}, {runs(4864), 5120, -1}, {runs(4865), 5120, -1},
		{runs(4864), 5121, 5120}, {runs(4865), 5121, -1}, {runs(5120), 5120, -1}, {runs(5121), 5120, -1}, {runs(longest), 5120, -1},
		{runs(65278), 65535, 65534}, {runs(65279), 65535, -1}, {runs(65280), 65535, -1}, {runs(65281), 65535, -1},
		{runs(65535), 65535, -1}, {runs(65536), 65535, -1}, {runs(65536), 5120, -1}, {runs(1<<17 - 256), 5120, -1}, {runs(longest - 256), 65535, -1}, {runs(longest), 65535, -1},
		{runs(65279), 65536, 65535}, {runs(65280), 65536, 65535}, {runs(65536), 65536, 65535}, {runs(longest), 65536, 65535}, {runs(longest), math.MaxInt, 65535},
		{runs(0), math.MinInt, -1}, {rests, -1, -1},
	} {
		for place := range 3 {
			x := ledView(3)
			x.Ports[0].Age = runs(999)
			x.RootPort = place
			x.Ports[place].Age = c.age
			x.Now.MaxAge, x.Mine.MaxAge = c.maxAge, 256
			checkAge(t, x, c.want)
			x.Mine.MaxAge = 65535
			checkAge(t, x, c.want)
		}
	}
}

// TestConfigOfTheRootIsNew has a bridge that takes itself for the root, or
// that no port leads to the root, whatever the ages of its ports.
func TestConfigOfTheRootIsNew(t *testing.T) {
	for _, maxAge := range []int{math.MaxInt, 65536, 65535, 256, 1, 0, -1, math.MinInt} {
		age := 0
		if maxAge <= 0 {
			age = -1
		}
		for _, place := range append([]int{3, 4}, noPlaces...) {
			x := ledView(3)
			x.RootPort, x.Now.MaxAge = place, maxAge
			checkAge(t, x, age)
		}
		for _, place := range append([]int{0, 1, 2, 3}, noPlaces...) {
			x := aloneView(3)
			x.RootPort, x.Now.MaxAge = place, maxAge
			for i := range x.Ports {
				x.Ports[i].Age = runs(longest)
			}
			checkAge(t, x, age)
		}
	}
}

// TestConfigTellsNowsTimes lets each of Now's and Mine's times be any, at the
// ends of a field and beyond them.
func TestConfigTellsNowsTimes(t *testing.T) {
	fields := map[int]uint16{math.MinInt: 0, -65535: 0, -1: 0, 0: 0, 1: 1, 255: 255, 256: 256, 0x1234: 0x1234, 65534: 65534, 65535: 65535, 65536: 65535, 65537: 65535, math.MaxInt: 65535}
	for now, field := range fields {
		for mine := range fields {
			x := aloneView(2)
			x.Now.Hello, x.Mine.Hello = now, mine
			told := configured(x, 1)
			told.hello = field
			checkTold(t, x, told)

			x = aloneView(2)
			x.Now.Delay, x.Mine.Delay = now, mine
			told = configured(x, 1)
			told.delay = field
			checkTold(t, x, told)

			if now <= 0 {
				continue
			}
			x = aloneView(2)
			x.Now.MaxAge, x.Mine.MaxAge = now, mine
			told = configured(x, 1)
			told.maxAge = field
			checkTold(t, x, told)
		}
	}
}

// checkTold wants the port 1 to tell just that.
func checkTold(t *testing.T, x tree.Tree, told configuration) {
	t.Helper()
	want := own(x)
	want.Ports[1].Ack, want.Ports[1].Pending, want.Ports[1].Hold = false, false, runs(0)
	check(t, "Config", configOf(1), x, want, []api.Out{told.out(1)})
}

// TestConfigTellsEachField lets each number be 0, the greatest, and one of a
// bit alone.
func TestConfigTellsEachField(t *testing.T) {
	numbers := []uint64{0, math.MaxUint64, 0x0102030405060708}
	for bit := range 64 {
		numbers = append(numbers, 1<<bit)
	}
	for _, n := range numbers {
		x := ledView(2)
		x.Root = api.BridgeId(n)
		told := configured(x, 1)
		told.root, told.age = n, 1256
		checkTold(t, x, told)

		x = ledView(2)
		x.Cost = uint32(n)
		told = configured(x, 1)
		told.cost, told.age = uint32(n), 1256
		checkTold(t, x, told)

		x = ledView(2)
		x.Own = api.BridgeId(n)
		told = configured(x, 1)
		told.bridge, told.age = n, 1256
		checkTold(t, x, told)

		x = ledView(2)
		x.Ports[1].Id = api.PortId(n)
		told = configured(x, 1)
		told.port, told.age = uint16(n), 1256
		checkTold(t, x, told)
	}
}

// TestConfigTellsWhatTheViewKnows hands in ports that hold what the view
// doesn't know: it is the view's that is told.
func TestConfigTellsWhatTheViewKnows(t *testing.T) {
	x := ledView(2)
	x.Ports[0].Held = rank.Vector{Root: 1, Cost: 2, Bridge: 3, Port: 4}
	x.Ports[1].Held = rank.Vector{Root: 5, Cost: 6, Bridge: 7, Port: 8}
	told := configuration{ack: true, root: 0x1234, cost: 77, bridge: me, port: 0x8002, age: 1256, maxAge: 5121, hello: 513, delay: 3841}
	checkTold(t, x, told)
}

// TestConfigTellsFlags lets Change and Ack be set or not; neither Detected
// nor what another port owes is told.
func TestConfigTellsFlags(t *testing.T) {
	for flags := range 16 {
		change, ack, detected, other := flags&1 != 0, flags&2 != 0, flags&4 != 0, flags&8 != 0
		x := aloneView(2)
		x.Change, x.Ports[1].Ack, x.Detected, x.Ports[0].Ack = change, ack, detected, other
		told := configuration{change: change, ack: ack, root: me, bridge: me, port: 0x8002, maxAge: 5121, hello: 513, delay: 3841}
		checkTold(t, x, told)
	}
}

// TestFrom lets a bridge have any address, and any priority: what goes out is
// from its address, and to the first reserved one, of a length.
func TestFrom(t *testing.T) {
	for _, addr := range []uint64{0, 1, 0x0203, mine, 1<<40 - 1, 1 << 40, 1 << 47, 1<<48 - 1} {
		for _, prio := range []uint64{0, 1, 0x8000, 0xffff} {
			for _, root := range []api.BridgeId{0, 0x1234, api.BridgeId(prio<<48 + addr)} {
				x := ledView(2)
				x.Own, x.Root = api.BridgeId(prio<<48+addr), root
				for _, call := range []step{configOf(1), tcn} {
					_, out := call(x)
					if len(out) != 1 {
						t.Fatalf("%d frames go out", len(out))
					}
					if f := out[0].Frame; f.From != api.Addr(addr) || f.To != 0x0180c2000000 || int(f.Kind) != len(f.Data) {
						t.Errorf("Own %x: the frame is %+v", x.Own, f)
					}
				}
			}
		}
	}
}
