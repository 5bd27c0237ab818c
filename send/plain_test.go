package send_test

import (
	"encoding/binary"
	"fmt"
	"math"
	"math/rand/v2"
	"slices"
	"testing"

	"treeline/api"
	"treeline/bpdu"
	"treeline/frame"
	"treeline/rank"
	"treeline/send"
	"treeline/tree"
)

// A plain reading of the chapter, which asks no layer.

// A configuration is what a port's configuration tells, number by number.
type configuration struct {
	change, ack               bool
	root                      uint64
	cost                      uint32
	bridge                    uint64
	port                      uint16
	age, maxAge, hello, delay uint16
}

// out is how it goes out by the port at a place.
func (c configuration) out(place int) api.Out {
	b := []byte{0x42, 0x42, 3, 0, 0, 0, 0, 0}
	if c.change {
		b[7] += 1
	}
	if c.ack {
		b[7] += 0x80
	}
	b = binary.BigEndian.AppendUint64(b, c.root)
	b = binary.BigEndian.AppendUint32(b, c.cost)
	b = binary.BigEndian.AppendUint64(b, c.bridge)
	for _, n := range []uint16{c.port, c.age, c.maxAge, c.hello, c.delay} {
		b = binary.BigEndian.AppendUint16(b, n)
	}
	return plainOut(place, c.bridge, b)
}

// plainOut is how data goes out by a port of the bridge of that number.
func plainOut(place int, bridge uint64, data []byte) api.Out {
	return api.Out{Port: place, Frame: api.Frame{To: 0x0180c2000000, From: api.Addr(bridge % (1 << 48)), Kind: uint16(len(data)), Data: data}}
}

// configured is what the port at a place tells, but for the Age.
func configured(x tree.Tree, i int) configuration {
	return configuration{
		change: x.Change, ack: x.Ports[i].Ack,
		root: uint64(x.Root), cost: x.Cost, bridge: uint64(x.Own), port: uint16(x.Ports[i].Id),
		maxAge: plainField(x.Now.MaxAge), hello: plainField(x.Now.Hello), delay: plainField(x.Now.Delay),
	}
}

func plainField(t int) uint16 {
	if t < 0 {
		return 0
	}
	if t > 65535 {
		return 65535
	}
	return uint16(t)
}

func isPlace(x tree.Tree, i int) bool {
	return 0 <= i && i < len(x.Ports)
}

func plainAge(x tree.Tree) uint16 {
	if x.Root == x.Own || !isPlace(x, x.RootPort) {
		return 0
	}
	return plainField(x.Ports[x.RootPort].Age.Value + 256)
}

func plainConfig(x tree.Tree, i int) (tree.Tree, []api.Out) {
	x = own(x)
	if !isPlace(x, i) {
		return x, nil
	}
	p := &x.Ports[i]
	if p.Hold.On {
		p.Pending = true
		return x, nil
	}
	told := configured(x, i)
	told.age = plainAge(x)
	if int(told.age) >= x.Now.MaxAge {
		return x, nil
	}
	p.Pending, p.Ack, p.Hold = false, false, runs(0)
	return x, []api.Out{told.out(i)}
}

func plainAll(x tree.Tree) (tree.Tree, []api.Out) {
	var out []api.Out
	for i := range x.Ports {
		p := x.Ports[i]
		if p.State != disabled && p.Held.Bridge == x.Own && p.Held.Port == p.Id {
			var more []api.Out
			x, more = plainConfig(x, i)
			out = append(out, more...)
		}
	}
	return own(x), out
}

func plainTcn(x tree.Tree) (tree.Tree, []api.Out) {
	if !isPlace(x, x.RootPort) {
		return x, nil
	}
	return x, []api.Out{plainOut(x.RootPort, uint64(x.Own), []byte{0x42, 0x42, 3, 0, 0, 0, 0x80})}
}

func plainDetect(x tree.Tree) (tree.Tree, []api.Out) {
	x = own(x)
	if x.Root == x.Own {
		x.Change, x.Detected, x.Told = true, true, runs(0)
		return x, nil
	}
	if x.Detected {
		return x, nil
	}
	x.Detected, x.Tcn = true, runs(0)
	return plainTcn(x)
}

func plainAcked(x tree.Tree) (tree.Tree, []api.Out) {
	x = own(x)
	x.Detected, x.Tcn = false, rests
	return x, nil
}

// Views drawn at random, always the same ones. Most numbers are few, so that
// they are often alike, and about the edges; some are any at all.

func pick[N any](draw *rand.Rand, some ...N) N {
	return some[draw.IntN(len(some))]
}

func anyTimer(draw *rand.Rand) api.Timer {
	if draw.IntN(2) == 0 {
		return rests
	}
	return runs(pick(draw, 0, 255, 256, 256*draw.IntN(30), draw.IntN(70000), draw.IntN(longest+1), longest))
}

func anyTime(draw *rand.Rand) int {
	return pick(draw, 5120, 512, 256*draw.IntN(42), draw.IntN(66000), 65535, 0, 1, -draw.IntN(9))
}

func anyId(draw *rand.Rand) api.BridgeId {
	return pick(draw, me, api.BridgeId(draw.Uint64()), api.BridgeId(draw.IntN(5)), math.MaxUint64, me-1, me)
}

// anyView answers a view of so many ports, whose numbers are unlike.
func anyView(draw *rand.Rand, ports int) tree.Tree {
	x := tree.Tree{
		Own: anyId(draw), Root: anyId(draw), Cost: pick(draw, 0, draw.Uint32(), math.MaxUint32), RootPort: draw.IntN(ports+3) - 1,
		Now:      tree.Times{MaxAge: anyTime(draw), Hello: anyTime(draw), Delay: anyTime(draw)},
		Mine:     tree.Times{MaxAge: anyTime(draw), Hello: anyTime(draw), Delay: anyTime(draw)},
		Detected: draw.IntN(2) == 0, Change: draw.IntN(2) == 0,
		Hello: anyTimer(draw), Tcn: anyTimer(draw), Told: anyTimer(draw),
	}
	base := draw.IntN(math.MaxUint16 + 1)
	for _, j := range draw.Perm(ports) {
		p := api.Port{
			Id: api.PortId(base + 257*j), State: pick(draw, disabled, blocking, listening, learning, forwarding, draw.IntN(9)-2), Cost: draw.Uint32(),
			Held: rank.Vector{Root: anyId(draw), Cost: draw.Uint32(), Bridge: anyId(draw), Port: api.PortId(draw.IntN(9))},
			Ack:  draw.IntN(2) == 0, Pending: draw.IntN(2) == 0,
			Age: anyTimer(draw), Delay: anyTimer(draw), Hold: anyTimer(draw),
		}
		if draw.IntN(3) > 0 {
			p.Held.Bridge, p.Held.Port = x.Own, p.Id
		}
		x.Ports = append(x.Ports, p)
	}
	return x
}

// checkAny holds every call against the plain reading.
func checkAny(t *testing.T, x tree.Tree, place int) {
	t.Helper()
	for _, c := range []struct {
		name        string
		call, plain step
	}{
		{"Config", configOf(place), func(x tree.Tree) (tree.Tree, []api.Out) { return plainConfig(x, place) }},
		{"All", send.All, plainAll},
		{"Tcn", tcn, plainTcn},
		{"Detect", send.Detect, plainDetect},
		{"Acked", acked, plainAcked},
	} {
		want, out := c.plain(x)
		check(t, c.name, c.call, x, want, out)
	}
}

func TestOfAnyView(t *testing.T) {
	draw := rand.New(rand.NewPCG(14, 1))
	met := map[string]int{}
	for range 40000 {
		x := anyView(draw, draw.IntN(6))
		place := draw.IntN(8) - 1
		checkAny(t, x, place)
		count(met, x, place)
	}
	for _, what := range []string{"no port", "held", "too old", "new", "older", "all", "the root detects", "another detects", "detected before", "no port to the root"} {
		if met[what] < 1000 {
			t.Errorf("%q was met %d times only: %v", what, met[what], met)
		}
	}
}

// count tells which cases of the chapter a view is one of.
func count(met map[string]int, x tree.Tree, place int) {
	_, out := plainConfig(x, place)
	switch {
	case !isPlace(x, place):
		met["no port"]++
	case x.Ports[place].Hold.On:
		met["held"]++
	case len(out) == 0:
		met["too old"]++
	case plainAge(x) == 0:
		met["new"]++
	default:
		met["older"]++
	}
	if _, out := plainAll(x); len(out) > 1 {
		met["all"]++
	}
	switch {
	case x.Root == x.Own:
		met["the root detects"]++
	case x.Detected:
		met["detected before"]++
	case isPlace(x, x.RootPort):
		met["another detects"]++
	default:
		met["no port to the root"]++
	}
}

func TestOfViewsWithManyPorts(t *testing.T) {
	draw := rand.New(rand.NewPCG(14, 2))
	for range 40 {
		ports := 900 + draw.IntN(101)
		checkAny(t, anyView(draw, ports), draw.IntN(ports))
	}
}

// plainLater lets a second go by for a view, as far as this layer's calls can
// tell: Hold rests behind one, all else that runs is older.
func plainLater(x tree.Tree) tree.Tree {
	x = own(x)
	for _, timer := range []*api.Timer{&x.Hello, &x.Tcn, &x.Told} {
		older(timer)
	}
	for i := range x.Ports {
		p := &x.Ports[i]
		older(&p.Age)
		older(&p.Delay)
		p.Hold = rests
	}
	return x
}

func older(timer *api.Timer) {
	if timer.On {
		timer.Value = min(timer.Value+256, longest)
	}
}

// TestLongRows lets one view go through all that a bridge does with it, one
// behind the other, seconds go by, and others be drawn meanwhile.
func TestLongRows(t *testing.T) {
	for ports := range 5 {
		t.Run(fmt.Sprintf("%d ports", ports), func(t *testing.T) {
			draw := rand.New(rand.NewPCG(14, uint64(10+ports)))
			x := anyView(draw, ports)
			for range 6000 {
				place := draw.IntN(ports+2) - 1
				checkAny(t, x, place)
				switch draw.IntN(8) {
				case 0:
					x, _ = send.Detect(x)
				case 1:
					x = send.Acked(x)
				case 2, 3:
					x, _ = send.All(x)
				case 4, 5:
					x = plainLater(x)
				case 6:
					x, _ = send.Config(x, place)
				default:
					x = anyView(draw, ports)
				}
			}
		})
	}
}

// 14.3.

// checkHolds asks for what holds of what a call lets go out: no port whose
// Hold runs sends a configuration, and each one is older than what it comes
// from.
func checkHolds(t *testing.T, x tree.Tree, out []api.Out) {
	t.Helper()
	for _, o := range out {
		b, opened := frame.Open(o.Frame)
		if !opened || len(b) != 35 && len(b) != 4 {
			t.Fatalf("of\n%+v goes out\n%x, which is no Bpdu", x, o)
		}
		if len(b) == 4 {
			continue
		}
		if x.Ports[o.Port].Hold.On {
			t.Fatalf("of\n%+v a configuration goes out by the port %d", x, o.Port)
		}
		if x.Root == x.Own || !isPlace(x, x.RootPort) {
			continue
		}
		age := int(binary.BigEndian.Uint16(b[27:]))
		if from := x.Ports[x.RootPort].Age.Value; age <= from {
			t.Fatalf("of\n%+v what goes out has the Age %d, and comes from %d", x, age, from)
		}
	}
}

// fielded cuts a view's MaxAge to what a field tells, as all are that were
// configured, or heard.
func fielded(x tree.Tree) tree.Tree {
	x.Now.MaxAge = int(plainField(x.Now.MaxAge))
	return x
}

func TestWhatHolds(t *testing.T) {
	draw := rand.New(rand.NewPCG(14, 3))
	for range 40000 {
		x := fielded(anyView(draw, 1+draw.IntN(5)))
		_, out := send.All(x)
		checkHolds(t, x, out)
		for i := range x.Ports {
			_, out = send.Config(x, i)
			checkHolds(t, x, out)
		}
		_, out = send.Detect(x)
		checkHolds(t, x, out)
	}
}

// TestWhatHoldsOfEachAge lets what leads to the root be of each age that a
// field tells, under the MaxAges about it.
func TestWhatHoldsOfEachAge(t *testing.T) {
	x := ledView(2)
	for age := range 1 << 16 {
		x.Ports[0].Age = runs(age)
		for _, maxAge := range []int{age, age + 255, age + 256, age + 257, 65535} {
			x.Now.MaxAge = min(maxAge, 65535)
			_, out := send.Config(x, 1)
			checkHolds(t, x, out)
			if told := len(out) == 1; told != (age+256 < x.Now.MaxAge) {
				t.Fatalf("Age %d, MaxAge %d: %d frames go out", age, x.Now.MaxAge, len(out))
			}
		}
	}
}

// TestWhatGoesOutIsHeard lets others read all that goes out of views whose
// root isn't too far: each frame may be, and what it tells is neither
// malformed nor too old.
func TestWhatGoesOutIsHeard(t *testing.T) {
	draw := rand.New(rand.NewPCG(14, 5))
	many := 0
	for range 20000 {
		x := fielded(anyView(draw, 1+draw.IntN(5)))
		x.Cost %= 1 << 31
		_, out := send.All(x)
		for _, o := range append(out, send.Tcn(x)...) {
			f := o.Frame
			raw, e := frame.Put(f)
			if g, again := frame.Get(raw); e != api.OK || again != api.OK || !frame.Same(f, g) {
				t.Fatalf("of\n%+v goes out\n%+v: %d, %d", x, f, e, again)
			}
			b, _ := frame.Open(f)
			c, e := bpdu.Get(b)
			if e != api.OK || !c.Tcn && (c.Root != x.Root || c.Cost != x.Cost || c.Bridge != x.Own || c.Port != x.Ports[o.Port].Id) {
				t.Fatalf("of\n%+v is heard\n%+v: %d", x, c, e)
			}
			many++
		}
	}
	if many < 10000 {
		t.Errorf("only %d frames go out", many)
	}
}

// TestOneASecond asks each port to tell again and again: until its Hold is
// over it tells once.
func TestOneASecond(t *testing.T) {
	draw := rand.New(rand.NewPCG(14, 4))
	x := ledView(4)
	for second := range 200 {
		sent := make([]int, len(x.Ports))
		for range draw.IntN(6) {
			y, out := send.All(x)
			if draw.IntN(2) == 0 {
				y, out = send.Config(x, draw.IntN(4))
			}
			for _, o := range out {
				sent[o.Port]++
			}
			x = y
		}
		if most := slices.Max(sent); most > 1 {
			t.Fatalf("second %d: a port tells %d times", second, most)
		}
		x = plainLater(x)
		x.Ports[0].Age = runs(256 * draw.IntN(21))
	}
}

// FuzzOfAny hands in any view at all of ports with unlike numbers, whatever
// it knows, and reads its answers off the chapter.
func FuzzOfAny(f *testing.F) {
	f.Add(uint64(1), 3, uint64(me), uint64(0x1234), 0, 1, 5120)
	f.Add(uint64(2), 0, uint64(0), uint64(0), -1, 0, 0)
	f.Add(uint64(3), 1000, uint64(math.MaxUint64), uint64(1), math.MaxInt, math.MinInt, 65536)
	f.Fuzz(func(t *testing.T, seed uint64, ports int, id, root uint64, leads, place, maxAge int) {
		draw := rand.New(rand.NewPCG(seed, 14))
		x := anyView(draw, min(max(ports, 0), 1000))
		x.Own, x.Root, x.RootPort, x.Now.MaxAge = api.BridgeId(id), api.BridgeId(root), leads, maxAge
		checkAny(t, x, place)
		x = fielded(x)
		_, out := send.All(x)
		checkHolds(t, x, out)
	})
}
