package bridge_test

import (
	"fmt"
	"math"
	"math/rand/v2"
	"slices"
	"testing"

	"treeline/api"
	"treeline/bridge"
)

// Lives drawn at random, always the same ones. Most numbers are few, so that
// they are often alike; some are any at all.

func pick[N any](draw *rand.Rand, some ...N) N {
	return some[draw.IntN(len(some))]
}

func coin(draw *rand.Rand) bool {
	return draw.IntN(2) == 0
}

// anyConf answers a configuration that may be.
func anyConf(draw *rand.Rand) api.Conf {
	c := someConf(1 + draw.IntN(4))
	c.Addr, c.Prio = api.Addr(1+draw.IntN(3)), uint16(draw.IntN(4))
	c.Ageing, c.Table = pick(draw, 10, 12, 20, 300), pick(draw, 0, 1, 2, 3, 8, 64)
	for i := range c.Ports {
		c.Ports[i] = api.PortConf{Prio: pick(draw, 0, 128, uint8(draw.Uint32())), Cost: pick[uint32](draw, 1, 2, 3, 19, 65535), On: draw.IntN(4) > 0}
	}
	if draw.IntN(4) > 0 {
		return c
	}
	for {
		c.MaxAge, c.Hello, c.Delay = 6+draw.IntN(35), 1+draw.IntN(10), 4+draw.IntN(27)
		if plainCheck(c) == fine {
			return c
		}
	}
}

// anyAddr answers one of few stations' addresses, most times.
func anyAddr(draw *rand.Rand) uint64 {
	if draw.IntN(6) == 0 {
		return pick(draw, 0, all, group, reserved, reserved+uint64(draw.IntN(18))-1, 1, 2, 3, mine, draw.Uint64()>>16)
	}
	return ann + 256*uint64(draw.IntN(6))
}

// anyData answers a frame's bytes, of data most times.
func anyData(draw *rand.Rand) []byte {
	data := make([]byte, draw.IntN(40))
	for i := range data {
		data[i] = byte(draw.Uint32())
	}
	kind := pick(draw, uint16(len(data)), 0x0800, 1536, 0xffff, uint16(draw.IntN(len(data)+1)))
	return raw(anyAddr(draw), anyAddr(draw), kind, data...)
}

// anyId answers a bridge's number, of few.
func anyId(draw *rand.Rand) api.BridgeId {
	if draw.IntN(10) == 0 {
		return pick(draw, 0, me, api.BridgeId(draw.Uint64()), math.MaxUint64)
	}
	return api.BridgeId(draw.IntN(4))<<48 + api.BridgeId(1+draw.IntN(3))
}

// anyTelling answers a configuration that is much like what a port holds, or
// what its bridge tells; of no port, any one.
func (l *life) anyTelling(draw *rand.Rand, i int) api.Bpdu {
	b := api.Bpdu{
		Change: coin(draw), Ack: coin(draw),
		Root: anyId(draw), Cost: uint32(draw.IntN(60)), Bridge: anyId(draw), Port: api.PortId(0x8000 + draw.IntN(6)),
		MaxAge: pick(draw, 5120, 2560, uint16(draw.Uint32()), 65535), Hello: pick(draw, 256, 512, uint16(draw.Uint32())), Delay: pick(draw, 0, 512, 1024, 1025, uint16(draw.Uint32())),
	}
	b.Age = uint16(draw.IntN(int(b.MaxAge) + 1))
	switch draw.IntN(8) {
	case 0:
		b.Age = b.MaxAge
	case 1:
	default:
		b.Age = min(b.Age, uint16(draw.IntN(600)))
	}
	if !isPlace(l.m.view, i) || draw.IntN(4) == 0 {
		return b
	}
	x := l.m.view
	v := x.Ports[i].Held
	if draw.IntN(3) == 0 {
		v = api.Vector{Root: x.Root, Cost: x.Cost, Bridge: x.Own, Port: x.Ports[i].Id}
	}
	b.Root, b.Cost, b.Bridge, b.Port = v.Root, v.Cost, v.Bridge, v.Port
	switch draw.IntN(6) {
	case 0:
		b.Root += pick[api.BridgeId](draw, 1, math.MaxUint64)
	case 1:
		b.Cost += pick[uint32](draw, 1, math.MaxUint32)
	case 2:
		b.Bridge += pick[api.BridgeId](draw, 1, math.MaxUint64)
	case 3:
		b.Port += pick[api.PortId](draw, 1, math.MaxUint16)
	}
	return b
}

// anyBytes answers what a port may hear: data, what bridges tell each other,
// and each of them cut, lengthened, or with a byte changed.
func (l *life) anyBytes(draw *rand.Rand, i int) []byte {
	b := anyData(draw)
	if coin(draw) {
		x := l.anyTelling(draw, i)
		x.Tcn = draw.IntN(5) == 0
		b = rawTold(x)
		if draw.IntN(16) == 0 {
			b[13] = byte(3 + draw.IntN(len(b)-16))
		}
	}
	switch draw.IntN(16) {
	case 0:
		b = b[:draw.IntN(len(b)+1)]
	case 1:
		b = append(b, make([]byte, draw.IntN(20))...)
	case 2:
		b[draw.IntN(min(len(b), 22))] = byte(draw.Uint32())
	case 3:
		b = append(b, make([]byte, 1480+draw.IntN(60))...)
	}
	return b
}

// anyPlace answers that of a port, most times, or one ahead of all or behind them.
func (l *life) anyPlace(draw *rand.Rand) int {
	many := len(l.m.view.Ports)
	if draw.IntN(16) == 0 {
		return pick(draw, noPlaces(many)...)
	}
	return draw.IntN(many)
}

// anyStep lets one thing befall a bridge; met notes which ones were met.
func (l *life) anyStep(draw *rand.Rand, met map[string]int) []api.Out {
	l.t.Helper()
	i := l.anyPlace(draw)
	was := *l.m
	was.table = slices.Clone(was.table)
	var out []api.Out
	switch n := draw.IntN(200); {
	case n < 70:
		out = l.tick()
		countTick(met, &was, l.m)
	case n < 186:
		b := l.anyBytes(draw, i)
		out = l.in(i, b)
		countIn(met, &was, l.m, i, b, out)
	case n < 199:
		on := draw.IntN(3) > 0
		out = l.turn(i, on)
		countTurn(met, &was, l.m, i, on)
	default:
		out = l.reboot()
		note(met, fmt.Sprintf("reboot, of an empty table %t", len(was.table) == 0))
	}
	return out
}

func note(met map[string]int, what string) {
	if met != nil {
		met[what]++
	}
}

func countTick(met map[string]int, was, now *model) {
	note(met, fmt.Sprintf("tick, change %t %t", was.view.Change, now.view.Change))
	if len(now.table) < len(was.table) {
		note(met, fmt.Sprintf("forgotten, change %t", now.view.Change))
	}
	if was.limit() == now.limit() {
		return
	}
	for _, e := range was.table {
		if old := e.age + 1; (old < was.limit()) != (old < now.limit()) {
			note(met, fmt.Sprintf("the limit behind the tick counts, change %t", now.view.Change))
		}
	}
}

func countIn(met map[string]int, was, now *model, i int, b []byte, out []api.Out) {
	f, ok := plainFrame(b)
	switch {
	case !ok:
		note(met, "no frame")
		return
	case !isPlace(was.view, i):
		note(met, "no port")
		return
	}
	state := was.view.Ports[i].State
	switch {
	case plainTold(f):
		_, _, e := plainBytes(was.view, i, f.Data[3:])
		note(met, fmt.Sprintf("told in %d", state))
		note(met, fmt.Sprintf("told, error %d", e))
	case f.To>>4 == reserved>>4:
		note(met, "reserved")
	default:
		note(met, fmt.Sprintf("data in %d", state))
		countData(met, was, now, i, f, out)
	}
}

func countData(met map[string]int, was, now *model, i int, f api.Frame, out []api.Out) {
	before, had := was.lookup(f.From)
	behind, has := now.lookup(f.From)
	switch {
	case !has && len(was.table) == was.conf.Table && plainIsOne(f.From):
		note(met, "full")
	case has && !had:
		note(met, "learnt")
	case before != behind:
		note(met, "moved")
	}
	where, known := now.lookup(f.To)
	if was.view.Ports[i].State != forwarding {
		return
	}
	switch {
	case f.To == f.From && known:
		note(met, "to itself")
	case known && where == i:
		note(met, "known behind the port")
	case known:
		note(met, fmt.Sprintf("known behind another one, goes %d", len(out)))
	case plainGroup(f.To):
		note(met, "to several ones")
	default:
		note(met, fmt.Sprintf("to nobody known, goes %d", len(out)))
	}
}

func countTurn(met map[string]int, was, now *model, i int, on bool) {
	if !isPlace(was.view, i) {
		note(met, "switch of no port")
		return
	}
	note(met, fmt.Sprintf("switch %t in %d", on, was.view.Ports[i].State))
	if gone := len(was.table) - len(now.table); gone > 0 && gone < len(was.table) {
		note(met, "some are flushed")
	}
}

// wantMet wants that all that was to be met was met often enough.
func wantMet(t *testing.T, met map[string]int, times int, what ...string) {
	t.Helper()
	for _, name := range what {
		if met[name] < times {
			t.Errorf("%s: met %d times only", name, met[name])
		}
	}
}

// 19.1 to 19.3: lives of many steps, against the plain reading.
func TestAnyLives(t *testing.T) {
	draw := rand.New(rand.NewPCG(19, 1))
	met := map[string]int{}
	for range 900 {
		l, _ := begins(t, anyConf(draw))
		for range 400 {
			l.anyStep(draw, met)
		}
	}
	wantMet(t, met, 100,
		"tick, change false false", "tick, change false true", "tick, change true false", "tick, change true true",
		"forgotten, change true", "forgotten, change false",
		"no frame", "no port", "reserved",
		"told in 0", "told in 1", "told in 2", "told in 3", "told in 4",
		"told, error 0", "told, error 2", "told, error 3", "told, error 4", "told, error 5", "told, error 6", "told, error 8",
		"data in 0", "data in 1", "data in 2", "data in 3", "data in 4",
		"full", "learnt", "moved", "to itself", "known behind the port", "known behind another one, goes 0", "known behind another one, goes 1",
		"to several ones", "to nobody known, goes 0", "to nobody known, goes 1", "to nobody known, goes 2", "to nobody known, goes 3",
		"switch of no port", "switch true in 0", "switch true in 1", "switch true in 2", "switch true in 3", "switch true in 4",
		"switch false in 0", "switch false in 1", "switch false in 2", "switch false in 3", "switch false in 4",
		"some are flushed", "reboot, of an empty table true", "reboot, of an empty table false")
	wantMet(t, met, 20, "the limit behind the tick counts, change true", "the limit behind the tick counts, change false")
}

// 19.1 to 19.3: long lives with little but ticks and data, so that ports
// forward, and who was heard is forgotten by its age.
func TestQuietLives(t *testing.T) {
	draw := rand.New(rand.NewPCG(19, 2))
	for range 40 {
		l, _ := begins(t, anyConf(draw))
		for range 60 {
			l.ticks(draw.IntN(12))
			for range draw.IntN(12) {
				l.in(l.anyPlace(draw), anyData(draw))
			}
			if draw.IntN(8) == 0 {
				l.anyStep(draw, nil)
			}
		}
	}
}

// Two bridges beside each other, that share nothing: each is held against its
// own reading behind each step of the other one.
func TestTwoLives(t *testing.T) {
	draw := rand.New(rand.NewPCG(19, 3))
	for range 60 {
		c := anyConf(draw)
		a, _ := begins(t, c)
		if coin(draw) {
			c = anyConf(draw)
		}
		b, _ := begins(t, c)
		for range 150 {
			if coin(draw) {
				a, b = b, a
			}
			a.anyStep(draw, nil)
			b.check("beside one to which something befell")
		}
	}
}

// Two bridges whose ports are on the same LANs: each hears what the other one
// sends. They come to one root, and one port at most is blocked of each LAN.
func TestTwoTalk(t *testing.T) {
	draw := rand.New(rand.NewPCG(19, 4))
	for range 60 {
		ports := 1 + draw.IntN(4)
		c, d := someConf(ports), someConf(ports)
		c.Prio, d.Prio = uint16(draw.IntN(3)), uint16(draw.IntN(3))
		d.Addr = mine + 1
		a, sent := begins(t, c)
		b, told := begins(t, d)
		talk(a, b, sent)
		talk(b, a, told)
		for range 40 {
			talk(a, b, a.tick())
			talk(b, a, b.tick())
			if coin(draw) {
				i, x := draw.IntN(ports), anyData(draw)
				b.in(i, x)
				a.in(i, x)
			}
		}
		x, y := a.b.View(), b.b.View()
		if x.Root != y.Root || x.Root != min(x.Own, y.Own) {
			t.Fatalf("the roots are %x and %x", x.Root, y.Root)
		}
		for i := range ports {
			if x.Ports[i].State != forwarding && y.Ports[i].State != forwarding || i > 0 && x.Ports[i].State == forwarding && y.Ports[i].State == forwarding {
				t.Fatalf("the states are %d and %d", a.b.States(), b.b.States())
			}
		}
	}
}

// talk lets one bridge hear what another one sent, and that one what is sent by
// that, till nothing is.
func talk(from, to *life, sent []api.Out) {
	from.t.Helper()
	for len(sent) > 0 {
		sent = from.hear(to.hear(sent))
	}
}

// hear lets a bridge hear what another one sent, by the ports of the same
// numbers, and answers what it sends by that.
func (l *life) hear(sent []api.Out) []api.Out {
	l.t.Helper()
	var out []api.Out
	for _, o := range sent {
		f := o.Frame
		out = append(out, l.in(o.Port, raw(uint64(f.To), uint64(f.From), f.Kind, f.Data...))...)
	}
	return out
}

// 19.1: New of configurations drawn at random, some of which may not be.
func TestNewOfAny(t *testing.T) {
	draw := rand.New(rand.NewPCG(19, 5))
	met := map[string]int{}
	for range 20_000 {
		c := anyConf(draw)
		switch draw.IntN(12) {
		case 0:
			c.Addr = api.Addr(draw.Uint64() >> draw.IntN(40))
		case 1:
			c.MaxAge = draw.IntN(50)
		case 2:
			c.Hello, c.Delay = draw.IntN(14), draw.IntN(40)
		case 3:
			c.Ageing = pick(draw, 9, 10, 1_000_000, 1_000_001, int(draw.Uint64()))
		case 4:
			c.Table = draw.IntN(80) - 8
		case 5:
			c.Ports = someConf(draw.IntN(8)).Ports
		case 6:
			c.Ports[draw.IntN(len(c.Ports))].Cost = pick(draw, 0, 65535, 65536, draw.Uint32())
		}
		e := plainCheck(c)
		note(met, fmt.Sprint(e))
		if e != fine {
			checkRefused(t, c, e)
			continue
		}
		begins(t, c)
	}
	wantMet(t, met, 100, "0", "1", "3", "4", "8")
}

// FuzzOfAny takes bytes for what befalls a bridge: the first of each few says
// what, and of which port.
func FuzzOfAny(f *testing.F) {
	f.Add(uint64(1), []byte{0, 0, 0, 0, 0, 0, 0, 0, 0, 1, 9}, rawTold(telling(3)))
	f.Add(uint64(2), []byte{0, 0, 0, 0, 5, 9, 13, 0, 3, 7, 2, 6}, raw(all, ann, 0x0800, 1, 2, 3))
	f.Add(uint64(3), []byte{1, 1, 1, 2, 3, 255, 254}, []byte{1, 2, 3})
	f.Fuzz(func(t *testing.T, seed uint64, steps []byte, b []byte) {
		draw := rand.New(rand.NewPCG(seed, 19))
		l, _ := begins(t, anyConf(draw))
		for _, s := range steps[:min(len(steps), 300)] {
			switch i := int(s>>2&7) - 1; s & 3 {
			case 0:
				l.ticks(1 + int(s>>5))
			case 1:
				l.in(i, b)
			case 2:
				l.turn(i, s>>5&1 == 0)
			case 3:
				l.anyStep(draw, nil)
			}
		}
	})
}

// 19.1: what New refuses leaves other bridges as they were.
func TestRefusedNewLeavesOthers(t *testing.T) {
	l := forwards(t, 2)
	c := someConf(2)
	c.Ports[1].Cost = 0
	for range 3 {
		if b, out, e := bridge.New(c); b != nil || len(out) > 0 || e != errForm {
			t.Fatalf("New = %p, %x, %d", b, out, e)
		}
		l.check("beside one that is refused")
	}
}
