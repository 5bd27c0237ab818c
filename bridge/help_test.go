package bridge_test

import (
	"bytes"
	"fmt"
	"math"
	"reflect"
	"slices"
	"testing"

	"treeline/api"
	"treeline/bridge"
	"treeline/tree"
)

// The states by their numbers, written out apart from the package's names.
const (
	disabled = iota
	blocking
	listening
	learning
	forwarding
)

// The errors by their numbers.
const (
	fine     = 0
	errArg   = 1
	errShort = 2
	errForm  = 3
	errLong  = 4
	errAge   = 5
	errOwn   = 6
	errNone  = 8
)

// longest is the greatest Value of a timer.
const longest = 1 << 30

// me is the bridge's number in most lives, and mine its address; better is the
// number of a root that others lead to, next that of a bridge ahead, and worse
// that of one that nobody is led to.
const (
	me     = 0x8001_0203_0405_0607
	mine   = 0x0203_0405_0607
	better = 0x1000_0000_0000_1234
	next   = 0x2000_0000_0000_5678
	worse  = 0x9000_0000_0000_9abc
)

// reserved is the first reserved address, all everybody's, group several ones'.
const (
	reserved = 0x0180_c200_0000
	all      = 0xffff_ffff_ffff
	group    = 0x0100_5e00_0001
)

// Stations' addresses: ann is always behind one port, bob behind another one;
// nobody has heard of zoe.
const (
	ann = 0x0000_0000_0a01
	bob = 0x0000_0000_0b02
	cat = 0x0000_0000_0c03
	zoe = 0x0000_0000_0f0f
)

// rests is a timer that rests, made without the layers below.
var rests = api.Timer{}

// runs answers a timer that has run that long.
func runs(value int) api.Timer {
	return api.Timer{On: true, Value: value}
}

// someConf answers a configuration that may be, of so many ports that are on.
// It is as quick as one may be: its ports listen for four seconds, learn for
// four more, and it tells a change for ten. Nobody shares its ports.
func someConf(ports int) api.Conf {
	c := api.Conf{Addr: mine, Prio: 0x8001, MaxAge: 6, Hello: 1, Delay: 4, Ageing: 300, Table: 64}
	for i := range ports {
		c.Ports = append(c.Ports, api.PortConf{Prio: 0x80, Cost: uint32(19 + 20*i), On: true})
	}
	return c
}

// noPlaces are numbers at which a bridge of so many ports has none.
func noPlaces(ports int) []int {
	return []int{
		math.MinInt, math.MinInt + 1, -1 << 32, -257, -256, -ports - 1, -ports, -2, -1,
		ports, ports + 1, 255, 256, 1<<32 - 1, 1 << 32, 1<<32 + 1, math.MaxInt - 1, math.MaxInt,
	}
}

// own answers the view with ports of its own, made without the layers below.
func own(x tree.Tree) tree.Tree {
	x.Ports = slices.Clone(x.Ports)
	return x
}

// same tells whether two views are alike, without asking the layers below.
func same(a, b tree.Tree) bool {
	p, q := a.Ports, b.Ports
	a.Ports, b.Ports = nil, nil
	return reflect.DeepEqual(a, b) && slices.Equal(p, q)
}

// sameConf tells whether two configurations are alike.
func sameConf(a, b api.Conf) bool {
	p, q := a.Ports, b.Ports
	a.Ports, b.Ports = nil, nil
	return reflect.DeepEqual(a, b) && slices.Equal(p, q)
}

// sameOut tells whether the same frames go out by the same ports, in the same order.
func sameOut(a, b []api.Out) bool {
	return slices.EqualFunc(a, b, func(x, y api.Out) bool {
		return x.Port == y.Port && x.Frame.To == y.Frame.To && x.Frame.From == y.Frame.From &&
			x.Frame.Kind == y.Frame.Kind && bytes.Equal(x.Frame.Data, y.Frame.Data)
	})
}

// cloned answers the same frames, that share nothing with these.
func cloned(out []api.Out) []api.Out {
	out = slices.Clone(out)
	for i := range out {
		out[i].Frame.Data = bytes.Clone(out[i].Frame.Data)
	}
	return out
}

// raw answers a frame's bytes.
func raw(to, from uint64, kind uint16, data ...byte) []byte {
	var b []byte
	for _, a := range []uint64{to, from} {
		b = append(b, byte(a>>40), byte(a>>32), byte(a>>24), byte(a>>16), byte(a>>8), byte(a))
	}
	b = append(b, byte(kind>>8), byte(kind))
	return append(b, data...)
}

// rawTold answers the bytes of a frame by which another bridge tells that Bpdu.
func rawTold(x api.Bpdu) []byte {
	data := append([]byte{0x42, 0x42, 3}, plainPut(x)...)
	return raw(reserved, next%(1<<48), uint16(len(data)), data...)
}

// telling answers a configuration of the better root, from the bridge ahead.
func telling(cost uint32) api.Bpdu {
	return api.Bpdu{Root: better, Cost: cost, Bridge: next, Port: 0x8003, MaxAge: 10 * 256, Hello: 256, Delay: 1025}
}

// A life is a bridge, and what the chapters say that it is: whatever is done
// to the one is done to the other, and both are held against each other.
type life struct {
	t *testing.T
	b *bridge.Bridge
	m *model
}

// begins answers a bridge of a configuration that may be, and what goes out.
// The configuration is overwritten, spare room included.
func begins(t *testing.T, c api.Conf) (*life, []api.Out) {
	t.Helper()
	m := &model{conf: c}
	m.conf.Ports = slices.Clone(c.Ports)
	room := append(slices.Clone(c.Ports), api.PortConf{Prio: 7, Cost: 7}, api.PortConf{Prio: 8, Cost: 8})
	had := slices.Clone(room)
	c.Ports = room[:len(c.Ports)]
	b, out, e := bridge.New(c)
	if b == nil || e != fine {
		t.Fatalf("New(%+v) answers the bridge %p, and %d", c, b, e)
	}
	if !slices.Equal(room, had) {
		t.Fatalf("New changes the ports %+v: now %+v", had, room)
	}
	clear(room)
	l := &life{t, b, m}
	return l, l.wants("New", out, m.begin())
}

// wants holds what went out against what is wanted, and answers it, shared by
// nothing. Then it writes over it, which the bridge mustn't share.
func (l *life) wants(name string, out, want []api.Out) []api.Out {
	l.t.Helper()
	if !sameOut(out, want) {
		l.t.Fatalf("%s: there goes out\n%x, want\n%x", name, out, want)
	}
	for i := range out {
		data := out[i].Frame.Data[:cap(out[i].Frame.Data)]
		for j := range data {
			data[j] = 0xa5
		}
		if !sameOut(out[i+1:], want[i+1:]) {
			l.t.Fatalf("%s: the frame %d shares memory with one behind it", name, i)
		}
	}
	clear(out[:cap(out)])
	l.check(name)
	return cloned(want)
}

// check holds all that a bridge answers of itself against what is wanted,
// twice, the first answers overwritten ahead of the second ones.
func (l *life) check(name string) {
	l.t.Helper()
	for range 2 {
		l.checkView(name)
		l.checkTable(name)
		c := l.b.Conf()
		if !sameConf(c, l.m.conf) {
			l.t.Fatalf("%s: Conf = %+v, want %+v", name, c, l.m.conf)
		}
		clear(c.Ports[:cap(c.Ports)])
		if got, want := l.b.Limit(), l.m.limit(); got != want {
			l.t.Fatalf("%s: Limit = %d, want %d", name, got, want)
		}
	}
}

func (l *life) checkView(name string) {
	l.t.Helper()
	x, states := l.b.View(), l.b.States()
	if !same(x, l.m.view) {
		l.t.Fatalf("%s: the view is\n%+v, want\n%+v", name, x, l.m.view)
	}
	clear(x.Ports[:cap(x.Ports)])
	if !slices.Equal(states, l.m.states()) {
		l.t.Fatalf("%s: the states are %d, want %d", name, states, l.m.states())
	}
	clear(states[:cap(states)])
}

func (l *life) checkTable(name string) {
	l.t.Helper()
	if got, want := entries(l.b), l.m.rising(); !slices.Equal(got, want) {
		l.t.Fatalf("%s: the table is\n%x, want\n%x", name, got, want)
	}
	asked := []api.Addr{0, ann, bob, cat, zoe, mine, reserved, group, all, 1<<48 | ann, math.MaxUint64}
	for _, e := range l.m.table {
		asked = append(asked, e.addr, e.addr^1)
	}
	for _, a := range asked {
		got, there := l.b.Lookup(a)
		if want, known := l.m.lookup(a); got != want || there != known {
			l.t.Fatalf("%s: Lookup(%x) = %d, %t, want %d, %t", name, a, got, there, want, known)
		}
	}
}

// entries are those that a bridge's table hands out.
func entries(b *bridge.Bridge) []entry {
	var list []entry
	for a, e := range b.Table() {
		list = append(list, entry{a, e.Port, e.Age})
	}
	return list
}

// tick lets a second be over.
func (l *life) tick() []api.Out {
	l.t.Helper()
	return l.wants("Tick", l.b.Tick(), l.m.tick())
}

// ticks lets so many be over.
func (l *life) ticks(seconds int) *life {
	l.t.Helper()
	for range seconds {
		l.tick()
	}
	return l
}

// in lets a port hear bytes: they have spare room, and are overwritten then.
func (l *life) in(i int, b []byte) []api.Out {
	l.t.Helper()
	room := append(bytes.Clone(b), 0x42, 0x42, 3, 0, 0, 0, 0x80, 1, 2, 3)
	had := bytes.Clone(room)
	out := l.b.In(i, room[:len(b)])
	if !bytes.Equal(room, had) {
		l.t.Fatalf("In changes the bytes % x: now % x", had, room)
	}
	for j := range room {
		room[j] = 0x5a
	}
	return l.wants(fmt.Sprintf("In(%d, % x)", i, b), out, l.m.in(i, b))
}

// turn switches a port on, or off.
func (l *life) turn(i int, on bool) []api.Out {
	l.t.Helper()
	return l.wants(fmt.Sprintf("Switch(%d, %t)", i, on), l.b.Switch(i, on), l.m.turn(i, on))
}

// reboot lets the bridge begin again.
func (l *life) reboot() []api.Out {
	l.t.Helper()
	return l.wants("Reboot", l.b.Reboot(), l.m.begin())
}

// wantNothing wants that a step changes nothing, and nothing goes out.
func (l *life) wantNothing(step func() []api.Out) {
	l.t.Helper()
	x, table := l.b.View(), entries(l.b)
	if out := step(); len(out) != 0 {
		l.t.Fatalf("there goes out %x", out)
	}
	if y := l.b.View(); !same(x, y) {
		l.t.Fatalf("the view\n%+v is changed:\n%+v", x, y)
	}
	if got := entries(l.b); !slices.Equal(got, table) {
		l.t.Fatalf("the table\n%x is changed:\n%x", table, got)
	}
}

// wantGoes wants that just those bytes went out, by those ports.
func (l *life) wantGoes(out []api.Out, b []byte, ports ...int) {
	l.t.Helper()
	var by []int
	for _, o := range out {
		by = append(by, o.Port)
		f := o.Frame
		if got := raw(uint64(f.To), uint64(f.From), f.Kind, f.Data...); !bytes.Equal(got, b) {
			l.t.Fatalf("there goes out by %d\n% x, want\n% x", o.Port, got, b)
		}
	}
	if !slices.Equal(by, ports) {
		l.t.Fatalf("% x goes out by %d, want %d", b, by, ports)
	}
}

// wantTable wants that the table is just that, its addresses rising.
func (l *life) wantTable(want ...entry) {
	l.t.Helper()
	if got := entries(l.b); !slices.Equal(got, want) {
		l.t.Fatalf("the table is %x, want %x", got, want)
	}
}

// wantStates wants that the ports' states are these.
func (l *life) wantStates(want ...int) {
	l.t.Helper()
	if got := l.b.States(); !slices.Equal(got, want) {
		l.t.Fatalf("the states are %d, want %d", got, want)
	}
}

// forwards answers a bridge that forwards by all its ports, of so many, and
// tells a change no more.
func forwards(t *testing.T, ports int) *life {
	t.Helper()
	return forwardsOf(t, someConf(ports))
}

// forwardsOf does so of a configuration as quick as that of someConf.
func forwardsOf(t *testing.T, c api.Conf) *life {
	t.Helper()
	l, _ := begins(t, c)
	l.ticks(18)
	l.wantStates(slices.Repeat([]int{forwarding}, len(c.Ports))...)
	if x := l.b.View(); x.Change || x.Detected {
		t.Fatalf("it tells a change still: %+v", x)
	}
	return l
}
