package tree_test

import (
	"math"
	"math/rand/v2"
	"reflect"
	"slices"
	"testing"

	"treeline/api"
	"treeline/conf"
	"treeline/rank"
	"treeline/tree"
)

// The states by their numbers, written out apart from the package's names.
const (
	disabled = iota
	blocking
	listening
	learning
	forwarding
)

// longest is the greatest Value of a timer.
const longest = 1 << 30

// noStates are numbers that none of the five states has, some of which a cut
// to fewer bits, or a lost sign, would make one of them.
var noStates = []int{math.MinInt, math.MinInt + 4, -1<<32 + 3, -256, -5, -4, -3, -2, -1, 5, 6, 7, 8, 12, 20, 255, 256, 257, 258, 259, 260, 1 << 32, 1<<32 + 3, 1<<32 + 4, math.MaxInt}

// noPlaces are numbers at which no view of up to a thousand ports has one.
var noPlaces = []int{math.MinInt, -1 << 32, -257, -256, -2, -1, 1000, 1001, 1 << 16, 1 << 32, 1<<32 + 1, math.MaxInt}

// rests is a timer that rests, made without the layer below.
var rests = api.Timer{}

// runs answers a timer that has run that long.
func runs(value int) api.Timer {
	return api.Timer{On: true, Value: value}
}

// anyStates answers the five states, and numbers that none of them has.
func anyStates() []int {
	return append([]int{disabled, blocking, listening, learning, forwarding}, noStates...)
}

// fullPort answers a port none of whose fields is 0 or false; no two of its
// numbers are alike, nor are those of two places.
func fullPort(i int) api.Port {
	n := 20 * (i + 1)
	return api.Port{
		Id: api.PortId(0x8001 + i), State: blocking + i%4, Cost: uint32(n + 1),
		Held: rank.Vector{Root: api.BridgeId(n + 2), Cost: uint32(n + 3), Bridge: api.BridgeId(n + 4), Port: api.PortId(n + 5)},
		Ack:  true, Pending: true,
		Age: runs(n + 6), Delay: runs(n + 7), Hold: runs(n + 8),
	}
}

// fullView answers a view of so many ports none of whose fields is 0 or false,
// and no two of whose numbers are alike.
func fullView(ports int) tree.Tree {
	x := tree.Tree{
		Own: 1<<60 + 1, Root: 1<<60 + 2, Cost: 1<<20 + 3, RootPort: 1<<20 + 4,
		Now:      tree.Times{MaxAge: 1<<20 + 5, Hello: 1<<20 + 6, Delay: 1<<20 + 7},
		Mine:     tree.Times{MaxAge: 1<<20 + 8, Hello: 1<<20 + 9, Delay: 1<<20 + 10},
		Detected: true, Change: true,
		Hello: runs(1<<20 + 11), Tcn: runs(1<<20 + 12), Told: runs(1<<20 + 13),
	}
	for i := range ports {
		x.Ports = append(x.Ports, fullPort(i))
	}
	return x
}

// roomy answers the view with the same ports, behind which there is spare
// room that isn't empty.
func roomy(x tree.Tree) tree.Tree {
	ports := slices.Clone(x.Ports)
	for i := range 3 {
		ports = append(ports, fullPort(900+i))
	}
	x.Ports = ports[:len(x.Ports)]
	return x
}

// own answers the view with ports of its own, made without the package.
func own(x tree.Tree) tree.Tree {
	x.Ports = slices.Clone(x.Ports)
	return x
}

// same tells whether two views are alike, without asking the package.
func same(a, b tree.Tree) bool {
	p, q := a.Ports, b.Ports
	a.Ports, b.Ports = nil, nil
	if len(p) != len(q) || !reflect.DeepEqual(a, b) {
		return false
	}
	for i := range p {
		if p[i] != q[i] {
			return false
		}
	}
	return true
}

// room answers all ports of a view, those in spare room too, in new memory.
func room(x tree.Tree) []api.Port {
	return slices.Clone(x.Ports[:cap(x.Ports)])
}

// checkUnchanged holds a view's ports against what they were ahead of a call,
// spare room included.
func checkUnchanged(t *testing.T, call string, x tree.Tree, had []api.Port) {
	t.Helper()
	if now := x.Ports[:cap(x.Ports)]; !slices.Equal(now, had) {
		t.Fatalf("%s changes the ports\n%+v to\n%+v", call, had, now)
	}
}

// checkView makes a call that answers a view, twice, as it hangs on nothing
// but the view, and once more of one with spare room.
func checkView(t *testing.T, name string, call func(tree.Tree) tree.Tree, x, want tree.Tree) {
	t.Helper()
	checkOnce(t, name, call, x, want)
	checkOnce(t, name, call, x, want)
	checkOnce(t, name, call, roomy(x), want)
}

func checkOnce(t *testing.T, name string, call func(tree.Tree) tree.Tree, x, want tree.Tree) {
	t.Helper()
	had := room(x)
	if got := call(x); !same(got, want) {
		t.Fatalf("%s of\n%+v is\n%+v, want\n%+v", name, x, got, want)
	}
	checkUnchanged(t, name, x, had)
}

func checkStates(t *testing.T, x, want tree.Tree, lost bool) {
	t.Helper()
	checkView(t, "States", func(y tree.Tree) tree.Tree {
		z, told := tree.States(y)
		if told != lost {
			t.Fatalf("States of\n%+v tells %t, want %t", x, told, lost)
		}
		return z
	}, x, want)
}

func checkSame(t *testing.T, a, b tree.Tree, want bool) {
	t.Helper()
	hadA, hadB := room(a), room(b)
	if got := tree.Same(a, b); got != want {
		t.Fatalf("Same of\n%+v and\n%+v = %t, want %t", a, b, got, want)
	}
	if got := tree.Same(b, a); got != want {
		t.Fatalf("Same of\n%+v and\n%+v = %t, want %t", b, a, got, want)
	}
	checkUnchanged(t, "Same", a, hadA)
	checkUnchanged(t, "Same", b, hadB)
}

// 13.1: IsRoot, Telling.

func TestIsRoot(t *testing.T) {
	for _, id := range []api.BridgeId{0, 1, 1<<32 - 1, 1 << 32, 1<<48 - 1, 1 << 48, 0x8000<<48 + 257, 1 << 63, math.MaxUint64} {
		x := tree.Tree{Own: id, Root: id}
		if !tree.IsRoot(x) {
			t.Errorf("IsRoot(%+v) = false", x)
		}
		for bit := range 64 {
			x.Root = id ^ 1<<bit
			if tree.IsRoot(x) {
				t.Errorf("IsRoot(%+v) = true", x)
			}
		}
	}
}

// TestIsRootLooksAtNoMore lets what else there is say that the bridge is the
// root where it isn't, and the other way round.
func TestIsRootLooksAtNoMore(t *testing.T) {
	x := fullView(3)
	for _, place := range append([]int{0, 1, 2}, noPlaces...) {
		for _, cost := range []uint32{0, 1, math.MaxUint32} {
			x.RootPort, x.Cost = place, cost
			x.Root = x.Own
			had := room(x)
			if !tree.IsRoot(x) {
				t.Errorf("IsRoot(%+v) = false", x)
			}
			x.Root = x.Own - 1
			if tree.IsRoot(x) {
				t.Errorf("IsRoot(%+v) = true", x)
			}
			checkUnchanged(t, "IsRoot", x, had)
		}
	}
}

func TestTelling(t *testing.T) {
	for _, c := range []struct {
		x    tree.Tree
		want rank.Vector
	}{
		{tree.Tree{}, rank.Vector{}},
		{tree.Tree{RootPort: -1}, rank.Vector{}},
		{tree.Tree{Own: 9}, rank.Vector{Bridge: 9}},
		{tree.Tree{Root: 9}, rank.Vector{Root: 9}},
		{tree.Tree{Cost: 9}, rank.Vector{Cost: 9}},
		{tree.Tree{RootPort: 9}, rank.Vector{}},
		{tree.Tree{Own: math.MaxUint64, Root: math.MaxUint64 - 1, Cost: math.MaxUint32}, rank.Vector{Root: math.MaxUint64 - 1, Cost: math.MaxUint32, Bridge: math.MaxUint64}},
		{tree.Tree{Own: 1 << 63, Root: 1 << 32, Cost: 1 << 31}, rank.Vector{Root: 1 << 32, Cost: 1 << 31, Bridge: 1 << 63}},
		{fullView(0), rank.Vector{Root: 1<<60 + 2, Cost: 1<<20 + 3, Bridge: 1<<60 + 1}},
		{fullView(4), rank.Vector{Root: 1<<60 + 2, Cost: 1<<20 + 3, Bridge: 1<<60 + 1}},
	} {
		for _, place := range []int{c.x.RootPort, 0, 1, 2, -1} {
			c.x.RootPort = place
			had := room(c.x)
			if got := tree.Telling(c.x); got != c.want {
				t.Errorf("Telling(%+v) = %+v, want %+v", c.x, got, c.want)
			}
			checkUnchanged(t, "Telling", c.x, had)
		}
	}
}

// 13.1: New.

// good answers a configuration that may be, of so many ports, in new memory.
func good(ports int) api.Conf {
	c := api.Conf{Addr: 0x020304050607, Prio: 0x8000, MaxAge: 20, Hello: 2, Delay: 15, Ageing: 300, Table: 8}
	for i := range ports {
		c.Ports = append(c.Ports, api.PortConf{Prio: uint8(200 - 60*i), Cost: uint32(19 + i), On: i%3 != 1})
	}
	return c
}

// begun is what New should answer, told by the chapters' numbers alone.
func begun(c api.Conf) tree.Tree {
	id := api.BridgeId(c.Prio)<<48 + api.BridgeId(c.Addr)
	times := tree.Times{MaxAge: 256 * c.MaxAge, Hello: 256 * c.Hello, Delay: 256 * c.Delay}
	x := tree.Tree{Own: id, Root: id, Cost: 0, RootPort: -1, Now: times, Mine: times}
	for i, p := range c.Ports {
		number := api.PortId(p.Prio)*256 + api.PortId(i+1)
		q := api.Port{Id: number, State: disabled, Cost: p.Cost, Held: rank.Vector{Root: id, Bridge: id, Port: number}}
		if p.On {
			q.State = blocking
		}
		x.Ports = append(x.Ports, q)
	}
	return x
}

func checkNew(t *testing.T, c api.Conf) {
	t.Helper()
	had := slices.Clone(c.Ports[:cap(c.Ports)])
	want := begun(c)
	x := tree.New(c)
	if !same(x, want) {
		t.Fatalf("New(%+v) =\n%+v, want\n%+v", c, x, want)
	}
	if !slices.Equal(c.Ports[:cap(c.Ports)], had) {
		t.Fatalf("New changes the ports %+v to %+v", had, c.Ports[:cap(c.Ports)])
	}
	if !tree.IsRoot(x) || tree.Telling(x) != (rank.Vector{Root: want.Own, Bridge: want.Own}) {
		t.Fatalf("New(%+v): IsRoot %t, Telling %+v", c, tree.IsRoot(x), tree.Telling(x))
	}
}

func TestNew(t *testing.T) {
	got := tree.New(api.Conf{
		Addr: 7, Prio: 2, MaxAge: 20, Hello: 3, Delay: 15, Ageing: 300, Table: 8,
		Ports: []api.PortConf{{Prio: 128, Cost: 19, On: true}, {Prio: 3, Cost: 100}},
	})
	const id = 2<<48 + 7
	want := tree.Tree{
		Own: id, Root: id, RootPort: -1,
		Now: tree.Times{MaxAge: 5120, Hello: 768, Delay: 3840}, Mine: tree.Times{MaxAge: 5120, Hello: 768, Delay: 3840},
		Ports: []api.Port{
			{Id: 0x8001, State: blocking, Cost: 19, Held: rank.Vector{Root: id, Bridge: id, Port: 0x8001}},
			{Id: 0x0302, State: disabled, Cost: 100, Held: rank.Vector{Root: id, Bridge: id, Port: 0x0302}},
		},
	}
	if !same(got, want) {
		t.Errorf("New =\n%+v, want\n%+v", got, want)
	}
}

func TestNewOfEachCountOfPorts(t *testing.T) {
	for ports := range api.MaxPorts + 1 {
		c := good(ports)
		if e := conf.Check(c); e != api.OK && ports > 0 {
			t.Fatalf("Check(%+v) = %d", c, e)
		}
		checkNew(t, c)
		if got := len(tree.New(c).Ports); got != ports {
			t.Errorf("New of %d ports has %d", ports, got)
		}
		c.Ports = append(c.Ports, api.PortConf{Prio: 1, Cost: 2, On: true})[:ports]
		checkNew(t, c)
	}
}

func TestNewOfEachTime(t *testing.T) {
	many := 0
	for maxAge := 6; maxAge <= 40; maxAge++ {
		for hello := 1; hello <= 10; hello++ {
			for delay := 4; delay <= 30; delay++ {
				c := good(2)
				c.MaxAge, c.Hello, c.Delay = maxAge, hello, delay
				if conf.Times(c) {
					checkNew(t, c)
					many++
				}
			}
		}
	}
	if many < 1000 {
		t.Errorf("only %d times may be", many)
	}
}

func TestNewOfEachEdge(t *testing.T) {
	for _, addr := range []api.Addr{1, 255, 1<<32 - 1, 1 << 32, 1<<40 - 1, 1<<48 - 1 - 1<<40} {
		for _, prio := range []uint16{0, 1, 255, 256, 32768, 65535} {
			for _, portPrio := range []uint8{0, 1, 127, 128, 255} {
				for _, cost := range []uint32{4, 19, 65534, 65535} {
					for on := range 1 << api.MaxPorts {
						c := good(api.MaxPorts)
						c.Addr, c.Prio = addr, prio
						for i := range c.Ports {
							c.Ports[i] = api.PortConf{Prio: portPrio + uint8(7*i), Cost: cost - uint32(i), On: on>>i&1 != 0}
						}
						if e := conf.Check(c); e != api.OK {
							t.Fatalf("Check(%+v) = %d", c, e)
						}
						checkNew(t, c)
					}
				}
			}
		}
	}
}

// TestNewKeepsNothing changes a configuration behind New, and one view beside another.
func TestNewKeepsNothing(t *testing.T) {
	c := good(api.MaxPorts)
	want := begun(c)
	x, y := tree.New(c), tree.New(c)
	for i := range c.Ports {
		c.Ports[i] = api.PortConf{Prio: 9, Cost: 99, On: !c.Ports[i].On}
		y.Ports[i] = fullPort(i)
	}
	if !same(x, want) {
		t.Errorf("New keeps what was handed in, or is kept: %+v, want %+v", x, want)
	}
}

// TestNewOfWhatMayNotBe asks only that it ends, and leaves what is handed in.
func TestNewOfWhatMayNotBe(t *testing.T) {
	for _, c := range []api.Conf{
		{},
		{Addr: math.MaxUint64, Prio: 65535, MaxAge: math.MinInt, Hello: math.MaxInt, Delay: -1, Ageing: math.MinInt, Table: math.MaxInt},
		{Ports: make([]api.PortConf, 5)},
		{MaxAge: math.MaxInt, Ports: make([]api.PortConf, 300)},
		{Addr: api.Broadcast, Ports: []api.PortConf{{Cost: math.MaxUint32, On: true}}},
	} {
		had := slices.Clone(c.Ports)
		if got := tree.New(c); len(got.Ports) != len(c.Ports) {
			t.Errorf("New of %d ports has %d", len(c.Ports), len(got.Ports))
		}
		if !slices.Equal(c.Ports, had) {
			t.Errorf("New changes the ports %+v to %+v", had, c.Ports)
		}
	}
}

func TestExample(t *testing.T) {
	x := tree.New(good(api.MaxPorts))
	if !tree.IsRoot(x) {
		t.Errorf("who begins isn't the root: %+v", x)
	}
	for i, p := range x.Ports {
		if p.Held.Bridge != x.Own || p.Held.Port != p.Id {
			t.Errorf("port %d of who begins isn't designated: %+v", i, p)
		}
	}
	checkView(t, "Update", tree.Update, x, x)
}

// 13.1: Copy.

// checkCopy changes all of a copy's ports, and those in its spare room, and
// then all of those that were handed in.
func checkCopy(t *testing.T, x tree.Tree) {
	t.Helper()
	checkView(t, "Copy", tree.Copy, x, own(x))
	had, want := room(x), own(x)
	c, d := tree.Copy(x), tree.Copy(x)
	spoil(c)
	checkUnchanged(t, "changing a copy", x, had)
	if !same(d, want) {
		t.Fatalf("changing a copy changes another one: %+v, want %+v", d, want)
	}
	spoil(x)
	if !same(d, want) {
		t.Fatalf("changing what was handed in changes the copy: %+v, want %+v", d, want)
	}
	for i, p := range d.Ports[len(d.Ports):cap(d.Ports)] {
		if p == spoilt(len(d.Ports)+i) {
			t.Fatalf("a copy shares its spare room")
		}
	}
}

// spoil changes all ports of a view, those in spare room too.
func spoil(x tree.Tree) {
	for i := range x.Ports[:cap(x.Ports)] {
		x.Ports[:cap(x.Ports)][i] = spoilt(i)
	}
}

func spoilt(i int) api.Port {
	return api.Port{Id: 0xffff, State: -77, Cost: uint32(i), Age: runs(-77)}
}

func TestCopy(t *testing.T) {
	for _, ports := range []int{0, 1, 2, 3, 4, 5, 31, 32, 33, 999, 1000} {
		checkCopy(t, fullView(ports))
		checkCopy(t, roomy(fullView(ports)))
	}
	checkCopy(t, tree.Tree{})
	checkCopy(t, tree.Tree{Ports: []api.Port{}})
	checkCopy(t, tree.Tree{RootPort: math.MinInt, Cost: math.MaxUint32, Ports: make([]api.Port, 1000)})
}

func TestCopyOfEachField(t *testing.T) {
	for _, x := range eachLeaf(t, tree.Tree{Ports: make([]api.Port, 2)}) {
		checkCopy(t, x)
	}
}

// TestCopyIsNotAdded appends to a list that was handed in, and to its copy.
func TestCopyIsNotAdded(t *testing.T) {
	x := roomy(fullView(2))
	y := tree.Copy(x)
	more, other := append(x.Ports, spoilt(1)), append(y.Ports, spoilt(2))
	if more[2] != spoilt(1) || other[2] != spoilt(2) {
		t.Fatalf("a copy shares its spare room: %v, %v", more, other)
	}
}

// 13.1: Same.

// leaves answers all numbers and bools of a view, of its times, timers and ports.
func leaves(v reflect.Value) []reflect.Value {
	var out []reflect.Value
	switch v.Kind() {
	case reflect.Struct:
		for i := range v.NumField() {
			out = append(out, leaves(v.Field(i))...)
		}
	case reflect.Slice:
		for i := range v.Len() {
			out = append(out, leaves(v.Index(i))...)
		}
	default:
		out = append(out, v)
	}
	return out
}

// turned answers how many ways there are to turn a leaf: bit by bit.
func turned(v reflect.Value) int {
	if v.Kind() == reflect.Bool {
		return 1
	}
	return v.Type().Bits()
}

// turn turns one bit of a leaf.
func turn(v reflect.Value, bit int) {
	switch {
	case v.Kind() == reflect.Bool:
		v.SetBool(!v.Bool())
	case v.CanInt():
		v.SetInt(v.Int() ^ 1<<bit)
	default:
		v.SetUint(v.Uint() ^ 1<<bit)
	}
}

// viewLeaves and portLeaves are how many there are of a view without ports,
// and of a port.
const viewLeaves, portLeaves = 18, 15

// eachLeaf answers views that differ from one in one bit of one field alone,
// for each field there is.
func eachLeaf(t *testing.T, x tree.Tree) []tree.Tree {
	t.Helper()
	all := leaves(reflect.ValueOf(x))
	if len(all) != viewLeaves+portLeaves*len(x.Ports) {
		t.Fatalf("a view of %d ports has %d fields", len(x.Ports), len(all))
	}
	var out []tree.Tree
	for i, leaf := range all {
		for bit := range turned(leaf) {
			y := own(x)
			turn(leaves(reflect.ValueOf(&y).Elem())[i], bit)
			out = append(out, y)
		}
	}
	return out
}

func TestSameOfThoseAlike(t *testing.T) {
	for _, ports := range []int{0, 1, 2, 3, 4, 5, 999, 1000} {
		x := fullView(ports)
		checkSame(t, x, x, true)
		checkSame(t, x, fullView(ports), true)
		checkSame(t, x, roomy(x), true)
		checkSame(t, x, tree.Copy(x), true)
		x.Ports = make([]api.Port, ports)
		checkSame(t, x, own(x), true)
	}
	checkSame(t, tree.Tree{}, tree.Tree{}, true)
	checkSame(t, tree.Tree{}, tree.Tree{Ports: []api.Port{}}, true)
	checkSame(t, tree.Tree{}, tree.Tree{Ports: make([]api.Port, 0, 7)}, true)
}

// TestSameOfOneField lets two views differ in one bit of one field alone.
func TestSameOfOneField(t *testing.T) {
	for _, x := range []tree.Tree{{}, fullView(0), fullView(1), fullView(4), {Ports: make([]api.Port, 4)}} {
		for _, y := range eachLeaf(t, x) {
			checkSame(t, x, y, false)
			checkSame(t, y, own(y), true)
		}
	}
}

// TestSameOfFieldsThatChange lets two numbers of one view change places, so
// that none stands for another.
func TestSameOfFieldsThatChange(t *testing.T) {
	x := fullView(2)
	for i, a := range leaves(reflect.ValueOf(x)) {
		for j, b := range leaves(reflect.ValueOf(x)) {
			if i == j || a.Type() != b.Type() || a.Equal(b) {
				continue
			}
			y := own(x)
			to := leaves(reflect.ValueOf(&y).Elem())
			to[i].Set(b)
			to[j].Set(a)
			checkSame(t, x, y, false)
		}
	}
}

func TestSameOfMoreOrFewerPorts(t *testing.T) {
	x := fullView(4)
	for from := range 5 {
		for to := from; to < 5; to++ {
			y := x
			y.Ports = x.Ports[from:to]
			checkSame(t, x, y, from == 0 && to == 4)
		}
	}
	for ports := range 5 {
		y := fullView(ports)
		y.Ports = append(y.Ports, api.Port{})
		checkSame(t, fullView(ports), y, false)
		checkSame(t, tree.Tree{Ports: make([]api.Port, ports)}, tree.Tree{Ports: make([]api.Port, ports+1)}, false)
	}
	checkSame(t, fullView(999), fullView(1000), false)
	checkSame(t, tree.Tree{}, tree.Tree{Ports: make([]api.Port, 1)}, false)
}

func TestSameOfPortsInAnotherOrder(t *testing.T) {
	x := fullView(4)
	for i := range x.Ports {
		for j := range i {
			y := own(x)
			y.Ports[i], y.Ports[j] = y.Ports[j], y.Ports[i]
			checkSame(t, x, y, false)
		}
	}
}

// TestSameAtEachPlace lets one port of a thousand be another one.
func TestSameAtEachPlace(t *testing.T) {
	x := fullView(1000)
	y := own(x)
	for i := range y.Ports {
		had := y.Ports[i]
		turn(leaves(reflect.ValueOf(&y.Ports[i]).Elem())[i%portLeaves], 0)
		checkSame(t, x, y, false)
		y.Ports[i] = had
	}
	checkSame(t, x, y, true)
}

func TestSameOfAny(t *testing.T) {
	draw := rand.New(rand.NewPCG(13, 1))
	alike := 0
	for range 20000 {
		x, y := anyView(draw, draw.IntN(3)), anyView(draw, draw.IntN(3))
		if draw.IntN(2) == 0 {
			y = own(x)
			all := leaves(reflect.ValueOf(&y).Elem())
			if leaf := all[draw.IntN(len(all))]; draw.IntN(2) == 0 {
				turn(leaf, draw.IntN(turned(leaf)))
			}
		}
		want := same(x, y)
		checkSame(t, x, y, want)
		if want {
			alike++
		}
	}
	if alike < 1000 || alike > 10000 {
		t.Errorf("%d of 20000 were alike", alike)
	}
}
