package bridge_test

import (
	"bytes"
	"slices"
	"testing"

	"treeline/api"
)

// inState answers a bridge of four ports, of which that at 0 is in a state,
// and all others forward. Its table is empty.
func inState(t *testing.T, state int) *life {
	t.Helper()
	c := someConf(4)
	c.Ports[0].On = false
	l, _ := begins(t, c)
	l.ticks(18)
	switch state {
	case blocking:
		l.turn(0, true)
		l.ticks(18)
		l.in(1, rawTold(telling(10)))
		farther := telling(40)
		farther.Bridge++
		l.in(0, rawTold(farther))
	case listening:
		l.turn(0, true)
	case learning:
		l.turn(0, true)
		l.ticks(4)
	case forwarding:
		l.turn(0, true)
		l.ticks(18)
	}
	l.wantStates(state, forwarding, forwarding, forwarding)
	l.wantTable()
	return l
}

// 19.2: data that a port in each of the states hears: only who learns learns
// the sender, only who forwards lets it go on; and who sends is heard by it.
func TestDataByState(t *testing.T) {
	for _, to := range []uint64{zoe, all, group, mine, 0} {
		for state := disabled; state <= forwarding; state++ {
			l := inState(t, state)
			b := raw(to, ann, 0x0800, 1, 2, 3)
			switch out := l.in(0, b); state {
			case forwarding:
				l.wantGoes(out, b, 1, 2, 3)
			default:
				l.wantGoes(out, b)
			}
			if state >= learning {
				l.wantTable(entry{ann, 0, 0})
			} else {
				l.wantTable()
			}
		}
	}
}

// 19.2: data that another port hears goes on by a port just if that forwards,
// be it to all, to several ones, to nobody that is known, or to one that is
// known behind that port.
func TestDataToPortsByState(t *testing.T) {
	for state := disabled; state <= forwarding; state++ {
		l := inState(t, state)
		for _, to := range []uint64{zoe, all, group, 0} {
			b := raw(to, bob, 0x0800, 1, 2, 3)
			if out := l.in(2, b); state == forwarding {
				l.wantGoes(out, b, 0, 1, 3)
			} else {
				l.wantGoes(out, b, 1, 3)
			}
		}
		l.in(0, raw(bob, ann, 0x0800))
		b := raw(ann, bob, 0x0800)
		switch out := l.in(2, b); state {
		case forwarding:
			l.wantGoes(out, b, 0)
		case learning:
			l.wantGoes(out, b)
		default:
			l.wantGoes(out, b, 1, 3)
		}
	}
}

// 19.2: data to one that is known goes by that port alone; to one that is
// known behind the port that hears it by none; what is to all, or to several
// ones, by all.
func TestDataToWhoIsKnown(t *testing.T) {
	l := forwards(t, 4)
	for i, a := range []uint64{ann, bob, cat} {
		l.wantGoes(l.in(i, raw(zoe, a, 0x0800)), raw(zoe, a, 0x0800), slices.DeleteFunc([]int{0, 1, 2, 3}, func(p int) bool { return p == i })...)
	}
	for in := range 4 {
		for i, a := range []uint64{ann, bob, cat} {
			b := raw(a, 0x50+uint64(in), 0x0800, byte(in))
			if out := l.in(in, b); in == i {
				l.wantGoes(out, b)
			} else {
				l.wantGoes(out, b, i)
			}
		}
		for _, a := range []uint64{all, group, zoe, 0, mine} {
			b := raw(a, 0x60+uint64(in), 0x0800, byte(in))
			l.wantGoes(l.in(in, b), b, slices.DeleteFunc([]int{0, 1, 2, 3}, func(p int) bool { return p == in })...)
		}
	}
}

// 19.2: the sender is learnt ahead of the look-up of the receiver: what is to
// the sender itself goes nowhere, also if it was behind another port till then.
func TestDataToTheSender(t *testing.T) {
	l := forwards(t, 3)
	b := raw(ann, ann, 0x0800, 9)
	l.wantGoes(l.in(0, b), b)
	l.wantTable(entry{ann, 0, 0})
	l.wantGoes(l.in(2, b), b)
	l.wantTable(entry{ann, 2, 0})
	l.wantGoes(l.in(2, b), b)
	to := raw(ann, bob, 0x0800)
	l.wantGoes(l.in(0, to), to, 2)
}

// 19.2: who can't be learnt isn't known: what is to the sender itself goes by
// all, of a full table, and of a table of no places.
func TestDataToTheSenderOfAFullTable(t *testing.T) {
	for size := range 2 {
		c := someConf(3)
		c.Table = size
		l := forwardsOf(t, c)
		b := raw(bob, bob, 0x0800)
		l.in(1, raw(zoe, ann, 0x0800))
		l.wantGoes(l.in(2, b), b, 0, 1)
		l.wantGoes(l.in(2, b), b, 0, 1)
		if size == 1 {
			l.wantTable(entry{ann, 1, 0})
			l.in(0, raw(ann, ann, 0x0800))
			l.wantTable(entry{ann, 0, 0})
		}
	}
}

// 19.2, example 9 of the whole: by a table of no places each frame goes by all
// ports that forward.
func TestTableOfNoPlaces(t *testing.T) {
	c := someConf(4)
	c.Table = 0
	l := forwardsOf(t, c)
	for range 3 {
		for in := range 4 {
			b := raw(ann+uint64(in+1)%4, ann+uint64(in), 0x0800)
			l.wantGoes(l.in(in, b), b, slices.DeleteFunc([]int{0, 1, 2, 3}, func(p int) bool { return p == in })...)
			l.wantTable()
		}
	}
}

// 19.2: a sender that moves is behind the port that heard it last, of no age.
func TestSenderThatMoves(t *testing.T) {
	l := forwards(t, 4)
	l.in(3, raw(zoe, bob, 0x0800))
	for n := range 12 {
		in := n % 4
		l.in(in, raw(zoe, ann, 0x0800))
		l.tick()
		if table := entries(l.b); table[0] != (entry{ann, in, 1}) {
			t.Fatalf("the table is %x", table)
		}
		b := raw(ann, bob, 0x0800)
		l.wantGoes(l.in((in+1)%4, b), b, in)
		l.wantGoes(l.in(in, b), b)
		l.wantTable(entry{ann, in, 1}, entry{bob, in, 0})
	}
}

// 19.2: from an address that may not be one's nobody is learnt; the frame goes
// on all the same.
func TestDataFromNobody(t *testing.T) {
	l := forwards(t, 3)
	l.in(2, raw(zoe, bob, 0x0800))
	for _, from := range []uint64{0, group, all, reserved, reserved + 15, 1 << 40, 0xff00_0000_0000, 0x0100_0000_0a01} {
		b := raw(zoe, from, 0x0800, 1)
		l.wantGoes(l.in(0, b), b, 1, 2)
		b = raw(bob, from, 0x0800, 1)
		l.wantGoes(l.in(0, b), b, 2)
		b = raw(from, from, 0x0800, 1)
		if out := l.in(1, b); from>>4 == reserved>>4 {
			l.wantGoes(out, b)
		} else {
			l.wantGoes(out, b, 0, 2)
		}
		l.wantTable(entry{bob, 2, 0})
	}
	for _, from := range []uint64{1, 0xfeff_ffff_ffff, mine, 2 << 40} {
		b := raw(bob, from, 0x0800, 1)
		l.wantGoes(l.in(0, b), b, 2)
		if port, there := l.b.Lookup(api.Addr(from)); port != 0 || !there {
			t.Errorf("Lookup(%x) = %d, %t", from, port, there)
		}
	}
}

// 19.2: what is to a reserved address neither goes on, nor is its sender
// learnt, if bridges don't tell it each other; the addresses about those go on.
func TestReserved(t *testing.T) {
	l := forwards(t, 3)
	for to := uint64(reserved); to < reserved+16; to++ {
		for _, b := range [][]byte{
			raw(to, ann, 0x0800, 1, 2, 3), raw(to, ann, 0), raw(to, ann, 2, 0x42, 0x42), raw(to, ann, 4, 0x42, 0x42, 2, 0),
			raw(to, ann, 0x0800, 0x42, 0x42, 3, 0, 0, 0, 0x80), raw(to, ann, 0x88cc),
		} {
			l.wantNothing(func() []api.Out { return l.in(1, b) })
		}
		if to > reserved {
			b := rawTold(telling(3))
			b[5] = byte(to)
			l.wantNothing(func() []api.Out { return l.in(1, b) })
		}
	}
	for _, to := range []uint64{reserved - 1, reserved + 16, reserved ^ 1<<40, reserved ^ 1<<41, reserved | 1<<16} {
		for _, b := range [][]byte{raw(to, ann, 0x0800, 1), raw(to, ann, 7, 0x42, 0x42, 3, 0, 0, 0, 0x80)} {
			l.wantGoes(l.in(1, b), b, 0, 2)
			l.wantTable(entry{ann, 1, 0})
		}
	}
}

// 19.2: data of each length, of each sort of Kind, goes on whole.
func TestDataOfEachLength(t *testing.T) {
	l := forwards(t, 2)
	data := make([]byte, 1500)
	for i := range data {
		data[i] = byte(i * 7)
	}
	for n := range 1501 {
		if n > 70 && n < 1490 && n%89 != 0 {
			continue
		}
		for _, kind := range []uint16{uint16(n), 1536, 0x0800, 0xffff} {
			b := raw(bob, ann, kind, data[:n]...)
			l.wantGoes(l.in(0, b), b, 1)
		}
	}
}

// 19.2, 19.3: bytes behind data whose length is told don't go on.
func TestBytesBehindData(t *testing.T) {
	l := forwards(t, 3)
	for _, n := range []int{0, 1, 3, 46, 1499, 1500} {
		for _, more := range []int{1, 2, 14, 46, 3000} {
			b := raw(zoe, ann, uint16(n), bytes.Repeat([]byte{7}, n)...)
			l.wantGoes(l.in(2, append(slices.Clone(b), bytes.Repeat([]byte{9}, more)...)), b, 0, 1)
		}
	}
	b := raw(zoe, ann, 0x0800, bytes.Repeat([]byte{7}, 1500)...)
	l.wantGoes(l.in(2, b), b, 0, 1)
}

// 19.2: the port that there isn't hears nothing, whatever it is.
func TestNoPortHears(t *testing.T) {
	for ports := 1; ports <= 4; ports++ {
		l := forwards(t, ports)
		l.in(0, raw(zoe, bob, 0x0800))
		for _, i := range noPlaces(ports) {
			for _, b := range [][]byte{raw(all, ann, 0x0800, 1), raw(bob, ann, 0x0800, 1), rawTold(telling(1)), rawTold(api.Bpdu{Tcn: true}), {1}, nil} {
				l.wantNothing(func() []api.Out { return l.in(i, b) })
			}
		}
	}
}

// 19.2, rule 4: what goes out shares no memory with the bytes that were handed
// in, with the bridge, or with what else goes out; nor does a later answer.
func TestWhatGoesOutIsNewMemory(t *testing.T) {
	l := forwards(t, 4)
	b := append(raw(all, ann, 0x0800, 1, 2, 3), 0xee, 0xee, 0xee, 0xee)
	handed := b[:17]
	first := l.b.In(0, handed)
	second := l.b.In(0, handed)
	for _, o := range first {
		data := o.Frame.Data[:cap(o.Frame.Data)]
		for j := range data {
			data[j] = 0xa5
		}
	}
	if want := raw(all, ann, 0x0800, 1, 2, 3, 0xee, 0xee, 0xee, 0xee); !bytes.Equal(b, want) {
		t.Errorf("the bytes are % x, want % x", b, want)
	}
	clear(b)
	l.wantGoes(second, raw(all, ann, 0x0800, 1, 2, 3), 1, 2, 3)
	clear(first[:cap(first)])
	l.wantGoes(second, raw(all, ann, 0x0800, 1, 2, 3), 1, 2, 3)
}
