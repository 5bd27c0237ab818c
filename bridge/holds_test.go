package bridge_test

import (
	"bytes"
	"math/rand/v2"
	"slices"
	"testing"

	"treeline/api"
)

// 19.3: bytes that are no frame change nothing, in whatever state the port is
// that hears them: too short, too long, of a Kind that is neither.
func TestWhatIsNoFrame(t *testing.T) {
	whole := raw(all, ann, 0x0800, bytes.Repeat([]byte{7}, 1500)...)
	told := rawTold(telling(1))
	list := [][]byte{nil, {}, append(slices.Clone(whole), 7), append(slices.Clone(whole), make([]byte, 70_000)...)}
	for n := range 14 {
		list = append(list, whole[:n], told[:n])
	}
	for n := 14; n < len(told); n++ {
		list = append(list, told[:n])
	}
	for _, kind := range []uint16{1, 2, 46, 1500} {
		for _, less := range []int{1, int(kind)/2 + 1, int(kind)} {
			list = append(list, raw(all, ann, kind, make([]byte, int(kind)-less)...))
		}
	}
	for kind := uint16(1501); kind < 1536; kind++ {
		list = append(list, raw(all, ann, kind), raw(bob, ann, kind, make([]byte, 1500)...), raw(bob, ann, kind, make([]byte, kind)...))
	}
	for state := disabled; state <= forwarding; state++ {
		l := inState(t, state)
		l.in(1, raw(zoe, bob, 0x0800))
		for _, b := range list {
			for _, i := range []int{0, 2} {
				l.wantNothing(func() []api.Out { return l.in(i, b) })
			}
		}
	}
}

// 19.3: a bridge that begins again is as one that began: whatever befell it,
// and whatever befalls both from then on.
func TestBeginsAgain(t *testing.T) {
	draw := rand.New(rand.NewPCG(19, 9))
	for n := range 300 {
		c := anyConf(draw)
		old, _ := begins(t, c)
		for range draw.IntN(80) {
			old.anyStep(draw, nil)
		}
		again := old.reboot()
		fresh, first := begins(t, c)
		if !sameOut(again, first) {
			t.Fatalf("there goes out\n%x, of one that begins\n%x", again, first)
		}
		for range 40 {
			seed := draw.Uint64()
			a := old.anyStep(rand.New(rand.NewPCG(seed, 1)), nil)
			b := fresh.anyStep(rand.New(rand.NewPCG(seed, 1)), nil)
			if !sameOut(a, b) || !same(old.b.View(), fresh.b.View()) || !slices.Equal(entries(old.b), entries(fresh.b)) {
				t.Fatalf("in the life %d there goes out\n%x, of one that began\n%x", n, a, b)
			}
		}
	}
}

// 19.3: what was switched off is as its configuration tells, once it begins
// again; its table is empty, nothing is told of a change, no root is known.
func TestRebootBehindAll(t *testing.T) {
	c := someConf(4)
	c.Ports[3].On = false
	l, _ := begins(t, c)
	first := l.b.View()
	l.ticks(9)
	l.in(0, raw(zoe, ann, 0x0800))
	l.in(1, rawTold(telling(10)))
	l.turn(2, false)
	l.turn(3, true)
	l.in(0, rawTold(api.Bpdu{Tcn: true}))
	l.wantTable(entry{ann, 0, 0})
	if x := l.b.View(); x.Root != better || !x.Detected {
		t.Fatalf("the view is\n%+v", x)
	}
	for range 3 {
		out := l.reboot()
		var by []int
		for _, o := range out {
			by = append(by, o.Port)
		}
		if x := l.b.View(); !same(x, first) || !slices.Equal(by, []int{0, 1, 2}) {
			t.Errorf("there goes out by %d, the view is\n%+v, want\n%+v", by, x, first)
		}
		l.wantStates(listening, listening, listening, disabled)
		l.wantTable()
		if got := l.b.Conf(); !sameConf(got, c) || l.b.Limit() != 300 {
			t.Errorf("Conf = %+v, want %+v; the limit is %d", got, c, l.b.Limit())
		}
	}
}

// 19.3: what goes on is what was heard, byte for byte, but for what stands
// behind data whose length is told: of bytes drawn at random.
func TestGoesOnByteForByte(t *testing.T) {
	draw := rand.New(rand.NewPCG(19, 8))
	l := forwards(t, 4)
	went, cut := 0, 0
	for range 5000 {
		b := anyData(draw)
		whole := b
		if kind := int(b[12])<<8 | int(b[13]); kind <= 1500 {
			whole = b[:14+kind]
		}
		in := draw.IntN(4)
		for _, o := range l.in(in, b) {
			f := o.Frame
			if got := raw(uint64(f.To), uint64(f.From), f.Kind, f.Data...); !bytes.Equal(got, whole) || o.Port == in {
				t.Fatalf("of\n% x there goes on by %d\n% x", b, o.Port, got)
			}
			went++
			if len(whole) < len(b) {
				cut++
			}
		}
	}
	if went < 3000 || cut < 500 {
		t.Errorf("only %d frames went on, %d of them cut", went, cut)
	}
}

// 19.1, 19.2: two bridges beside each other share nothing: what befalls one is
// nothing to the other one.
func TestTwoShareNothing(t *testing.T) {
	c := someConf(3)
	a, _ := begins(t, c)
	b, _ := begins(t, c)
	a.ticks(12)
	b.check("beside one that ticked")
	a.in(0, raw(zoe, ann, 0x0800))
	b.wantTable()
	b.ticks(4)
	b.in(2, raw(zoe, bob, 0x0800))
	b.turn(1, false)
	a.check("beside one of which a port was switched off")
	a.wantTable(entry{ann, 0, 0})
	b.wantTable(entry{bob, 2, 0})
	a.reboot()
	b.check("beside one that began again")
	b.in(0, rawTold(telling(3)))
	a.check("beside one that heard of a root")
}
