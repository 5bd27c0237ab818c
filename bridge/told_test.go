package bridge_test

import (
	"slices"
	"testing"

	"treeline/api"
)

// slow answers a bridge of so many ports that forward, which tells by itself
// each ten seconds only, so that no port's Hold runs, and no change is told.
func slow(t *testing.T, ports int) *life {
	t.Helper()
	c := someConf(ports)
	c.MaxAge, c.Hello, c.Delay = 22, 10, 12
	l, _ := begins(t, c)
	l.ticks(62)
	l.wantStates(slices.Repeat([]int{forwarding}, ports)...)
	if x := l.b.View(); x.Change || x.Ports[0].Hold.On {
		t.Fatalf("it isn't at rest:\n%+v", x)
	}
	return l
}

// 19.2: a bridge hears of a better root: that is its root, by that port, and
// all its other ports tell it, byte by byte.
func TestHearsOfABetterRoot(t *testing.T) {
	l := slow(t, 3)
	out := l.in(1, rawTold(telling(10)))
	x := l.b.View()
	if x.Root != better || x.RootPort != 1 || x.Cost != 49 || x.Now.Delay != 1025 || len(out) != 2 {
		t.Fatalf("there goes out %x, the view is\n%+v", out, x)
	}
	for n, i := range []int{0, 2} {
		want := raw(reserved, mine, 38,
			0x42, 0x42, 3, 0, 0, 0, 0, 0,
			0x10, 0, 0, 0, 0, 0, 0x12, 0x34, 0, 0, 0, 49,
			0x80, 1, 2, 3, 4, 5, 6, 7, 0x80, byte(i+1),
			1, 0, 10, 0, 1, 0, 4, 1)
		l.wantGoes(out[n:n+1], want, i)
	}
	l.wantTable()
}

// 19.2: who tells something worse is told better, by that port alone.
func TestHearsOfAWorseRoot(t *testing.T) {
	l := slow(t, 3)
	x := telling(10)
	x.Root = worse
	out := l.in(2, rawTold(x))
	if len(out) != 1 || out[0].Port != 2 || len(out[0].Frame.Data) != 38 || l.b.View().Root != me {
		t.Fatalf("there goes out %x", out)
	}
	if out = l.in(2, rawTold(x)); len(out) != 0 || !l.b.View().Ports[2].Pending {
		t.Fatalf("there goes out %x, while Hold runs", out)
	}
	if out = l.tick(); len(out) != 1 || out[0].Port != 2 {
		t.Fatalf("there goes out %x, behind Hold", out)
	}
}

// 19.2: a TCN is acknowledged by the port that hears it, and told by the root.
func TestHearsATcn(t *testing.T) {
	l := slow(t, 2)
	l.in(0, raw(zoe, ann, 0x0800))
	out := l.in(1, rawTold(api.Bpdu{Tcn: true}))
	if len(out) != 1 || out[0].Port != 1 || out[0].Frame.Data[7] != 0x81 {
		t.Fatalf("there goes out %x", out)
	}
	if x := l.b.View(); !x.Change || l.b.Limit() != 12 {
		t.Fatalf("the limit is %d, the view\n%+v", l.b.Limit(), x)
	}
	l.wantTable(entry{ann, 0, 0})
}

// 19.2: a bridge that isn't the root sends a TCN on by the port to the root.
func TestSendsATcnOn(t *testing.T) {
	l := slow(t, 3)
	l.in(1, rawTold(telling(10)))
	l.tick()
	out := l.in(0, rawTold(api.Bpdu{Tcn: true}))
	if len(out) != 2 || out[1].Port != 0 || out[1].Frame.Data[7] != 0x80 {
		t.Fatalf("there goes out %x", out)
	}
	l.wantGoes(out[:1], raw(reserved, mine, 7, 0x42, 0x42, 3, 0, 0, 0, 0x80), 1)
}

// 19.2, P5: what bridges tell each other is neither relayed, nor is anybody
// learnt of it, by a port in whatever state, whoever sent it, told or not.
func TestNothingToldIsRelayed(t *testing.T) {
	for state := disabled; state <= forwarding; state++ {
		for _, from := range []uint64{ann, mine, all, 0, next % (1 << 48)} {
			l := inState(t, state)
			for _, b := range [][]byte{
				rawTold(telling(10)), rawTold(api.Bpdu{Tcn: true}), rawTold(telling(1 << 30)),
				raw(reserved, from, 3, 0x42, 0x42, 3), raw(reserved, from, 4, 0x42, 0x42, 3, 9), raw(reserved, from, 1500, append([]byte{0x42, 0x42, 3}, make([]byte, 1497)...)...),
			} {
				copy(b[6:12], raw(from, 0, 0)[:6])
				for _, o := range l.in(0, b) {
					if o.Frame.To != reserved || o.Frame.From != mine {
						t.Fatalf("there goes out %x", o)
					}
				}
				l.wantTable()
			}
		}
	}
}

// 19.2, 15.3: what is told in a way in which it can't be changes nothing.
func TestWhatCantBeTold(t *testing.T) {
	l := slow(t, 3)
	l.in(1, rawTold(telling(10)))
	l.in(0, raw(zoe, ann, 0x0800))
	l.tick()
	good := rawTold(telling(1))
	edit := func(change func(b []byte) []byte) []byte { return change(slices.Clone(good)) }
	of := func(change func(x *api.Bpdu)) []byte {
		x := telling(1)
		change(&x)
		return rawTold(x)
	}
	for n, b := range [][]byte{
		edit(func(b []byte) []byte { b[13] = 37; return b }),
		edit(func(b []byte) []byte { b[13] = 3; return b }),
		edit(func(b []byte) []byte { b[13] = 39; return b }),
		edit(func(b []byte) []byte { return b[:len(b)-1] }),
		edit(func(b []byte) []byte { b[17] = 1; return b }),
		edit(func(b []byte) []byte { b[19] = 2; return b }),
		edit(func(b []byte) []byte { b[20] = 0x81; return b }),
		edit(func(b []byte) []byte { b[16] = 4; return b }),
		of(func(x *api.Bpdu) { x.Cost = 1 << 31 }),
		of(func(x *api.Bpdu) { x.Age = x.MaxAge }),
		of(func(x *api.Bpdu) { x.Age, x.MaxAge = 0, 0 }),
		of(func(x *api.Bpdu) { x.Age = 65535 }),
	} {
		t.Log(n)
		for i := range 3 {
			l.wantNothing(func() []api.Out { return l.in(i, b) })
		}
	}
	own := telling(1)
	own.Bridge, own.Port = me, 0x8003
	l.wantNothing(func() []api.Out { return l.in(2, rawTold(own)) })
	if l.in(0, rawTold(own)); l.b.View().RootPort != 0 {
		t.Errorf("another port's telling isn't heard:\n%+v", l.b.View())
	}
}

// 19.2: what stands behind a Bpdu, in the frame's data or behind them, counts
// for nothing.
func TestBytesBehindWhatIsTold(t *testing.T) {
	for _, more := range []int{1, 9, 1459} {
		b := append(rawTold(telling(10)), make([]byte, more)...)
		l := slow(t, 2)
		if out := l.in(1, b); len(out) != 1 || l.b.View().RootPort != 1 {
			t.Errorf("%d bytes behind the data: there goes out %x", more, out)
		}
		b[12], b[13] = byte((38+more)>>8), byte(38+more)
		l = slow(t, 2)
		if out := l.in(1, b); len(out) != 1 || l.b.View().RootPort != 1 {
			t.Errorf("%d bytes behind the Bpdu: there goes out %x", more, out)
		}
	}
}

// 19.2: a port that is off hears nothing of what bridges tell; one that is
// blocked does.
func TestToldByState(t *testing.T) {
	for state := disabled; state <= forwarding; state++ {
		l := inState(t, state)
		best := telling(1)
		best.Root = 1
		if state == disabled {
			l.wantNothing(func() []api.Out { return l.in(0, rawTold(best)) })
			l.wantNothing(func() []api.Out { return l.in(0, rawTold(api.Bpdu{Tcn: true})) })
			continue
		}
		if l.in(0, rawTold(best)); l.b.View().RootPort != 0 || l.b.View().Root != 1 {
			t.Errorf("in the state %d it isn't heard:\n%+v", state, l.b.View())
		}
		l.wantStates(max(state, listening), forwarding, forwarding, forwarding)
	}
}

// 19.2: who is blocked relays no more; who was learnt behind it stays known,
// till it is forgotten, or that port is switched off.
func TestWhatIsLearntStaysWhileAPortIsBlocked(t *testing.T) {
	l := slow(t, 3)
	l.in(2, raw(zoe, ann, 0x0800))
	l.in(1, rawTold(telling(10)))
	near := telling(20)
	near.Bridge++
	l.in(2, rawTold(near))
	l.wantStates(forwarding, forwarding, blocking)
	l.wantTable(entry{ann, 2, 0})
	to := raw(ann, bob, 0x0800)
	l.wantGoes(l.in(0, to), to)
	l.wantTable(entry{ann, 2, 0}, entry{bob, 0, 0})
	l.turn(2, false)
	l.wantTable(entry{bob, 0, 0})
	l.wantGoes(l.in(0, to), to, 1)
}
