package bridge_test

import (
	"slices"
	"testing"

	"treeline/api"
)

// 19.2: a bridge alone, second by second: its ports listen for four, learn for
// four, forward; it tells its configuration each second, and the change from
// the one at which its ports forward on, for ten.
func TestTicksOfOneAlone(t *testing.T) {
	l, _ := begins(t, someConf(3))
	for second := 1; second <= 40; second++ {
		out := l.tick()
		state := min(listening+second/4, forwarding)
		l.wantStates(state, state, state)
		var flags byte
		if second > 8 && second <= 18 {
			flags = 1
		}
		for i, o := range out {
			if o.Port != i || len(o.Frame.Data) != 38 || o.Frame.Data[7] != flags {
				t.Fatalf("by the second %d there goes out %x", second, out)
			}
		}
		limit := 300
		if second >= 8 && second < 18 {
			limit = 4
		}
		if got := l.b.Limit(); got != limit || len(out) != 3 {
			t.Fatalf("by the second %d: %d frames, the limit %d, want %d", second, len(out), got, limit)
		}
	}
}

// 19.2: what goes out by a Tick, byte by byte.
func TestWhatGoesOutByATick(t *testing.T) {
	l, _ := begins(t, someConf(1))
	l.ticks(8)
	out := l.tick()
	want := raw(reserved, mine, 38,
		0x42, 0x42, 3, 0, 0, 0, 0, 1,
		0x80, 1, 2, 3, 4, 5, 6, 7, 0, 0, 0, 0,
		0x80, 1, 2, 3, 4, 5, 6, 7, 0x80, 1,
		0, 0, 6, 0, 1, 0, 4, 0)
	l.wantGoes(out, want, 0)
}

// 19.2: who isn't heard is forgotten by as many ticks as Ageing; who is heard
// again is no tick old.
func TestAgeing(t *testing.T) {
	for _, ageing := range []int{10, 11, 64, 300} {
		c := someConf(2)
		c.Ageing = ageing
		l := forwardsOf(t, c)
		l.in(0, raw(all, ann, 0x0800))
		l.in(1, raw(all, bob, 0x0800))
		for n := range ageing - 1 {
			l.wantTable(entry{ann, 0, n}, entry{bob, 1, 0})
			l.tick()
			l.wantTable(entry{ann, 0, n + 1}, entry{bob, 1, 1})
			l.in(1, raw(ann, bob, 0x0800))
		}
		l.tick()
		l.wantTable(entry{bob, 1, 1})
	}
}

// 19.1, 19.2: while the view tells a change the limit is that of its Delay,
// whole seconds that it isn't above, be it lesser than Ageing or greater.
func TestLimitByDelay(t *testing.T) {
	for _, x := range []struct {
		delay uint16
		want  int
	}{{0, 0}, {1, 1}, {255, 1}, {256, 1}, {257, 2}, {511, 2}, {512, 2}, {513, 3}, {1025, 5}, {3840, 15}, {65279, 255}, {65280, 255}, {65281, 256}, {65535, 256}} {
		l := forwards(t, 2)
		told := telling(10)
		told.Delay, told.MaxAge = x.delay, 65535
		l.in(0, rawTold(told))
		if got := l.b.Limit(); got != 300 {
			t.Errorf("of the Delay %d, no change: Limit = %d, want 300", x.delay, got)
		}
		told.Change = true
		l.in(0, rawTold(told))
		if got := l.b.Limit(); got != x.want {
			t.Errorf("of the Delay %d: Limit = %d, want %d", x.delay, got, x.want)
		}
		l.in(1, raw(zoe, bob, 0x0800))
		for n := range min(x.want, 250) {
			l.wantTable(entry{bob, 1, n})
			l.tick()
		}
		if x.want < 250 {
			if x.want == 0 {
				l.tick()
			}
			l.wantTable()
		}
		told.Change = false
		l.in(0, rawTold(told))
		if got := l.b.Limit(); got != 300 {
			t.Errorf("of the Delay %d, no change any more: Limit = %d, want 300", x.delay, got)
		}
	}
}

// 19.2: while a change is told nobody is forgotten by Ageing, if Delay is
// longer; by the first tick behind the change all that are that old are.
func TestAgeingIsLesser(t *testing.T) {
	c := someConf(2)
	c.Ageing = 10
	l := forwardsOf(t, c)
	told := telling(10)
	told.Change, told.Delay, told.MaxAge = true, 65535, 65535
	l.in(0, rawTold(told))
	l.in(1, raw(zoe, bob, 0x0800))
	l.ticks(30)
	l.in(1, raw(zoe, ann, 0x0800))
	l.ticks(7)
	l.wantTable(entry{ann, 1, 7}, entry{bob, 1, 37})
	told.Change = false
	l.in(0, rawTold(told))
	l.wantTable(entry{ann, 1, 7}, entry{bob, 1, 37})
	l.tick()
	l.wantTable(entry{ann, 1, 8})
}

// 19.2: by the tick at which a change begins the table's limit is that of the
// change already, since the view's tick comes first.
func TestTickAtWhichAChangeBegins(t *testing.T) {
	l, _ := begins(t, someConf(2))
	l.ticks(4)
	l.in(0, raw(zoe, ann, 0x0800))
	l.tick()
	l.in(1, raw(zoe, bob, 0x0800))
	l.ticks(2)
	l.wantTable(entry{ann, 0, 3}, entry{bob, 1, 2})
	if x := l.b.View(); x.Change {
		t.Fatalf("a change is told already: %+v", x)
	}
	l.tick()
	if x := l.b.View(); !x.Change {
		t.Fatalf("no change is told: %+v", x)
	}
	l.wantTable(entry{bob, 1, 3})
	l.tick()
	l.wantTable()
}

// 19.2: by the tick at which a change ends the limit is Ageing already.
func TestTickAtWhichAChangeEnds(t *testing.T) {
	l, _ := begins(t, someConf(2))
	l.ticks(13)
	l.in(1, raw(zoe, bob, 0x0800))
	l.tick()
	l.in(0, raw(zoe, ann, 0x0800))
	l.ticks(3)
	if x := l.b.View(); !x.Change {
		t.Fatalf("no change is told any more: %+v", x)
	}
	l.wantTable(entry{ann, 0, 3})
	l.tick()
	if x := l.b.View(); x.Change {
		t.Fatalf("a change is told still: %+v", x)
	}
	l.wantTable(entry{ann, 0, 4})
	l.ticks(295)
	l.wantTable(entry{ann, 0, 299})
	l.tick()
	l.wantTable()
}

// 19.2: by the tick at which the root is forgotten the limit is that of the
// bridge's own times, since it leads by then.
func TestTickAtWhichTheRootIsForgotten(t *testing.T) {
	l := forwards(t, 2)
	told := telling(10)
	told.Delay, told.MaxAge = 65535, 9*256
	l.in(0, rawTold(told))
	l.ticks(4)
	l.in(1, raw(zoe, ann, 0x0800))
	l.tick()
	l.in(1, raw(zoe, bob, 0x0800))
	l.ticks(3)
	l.wantTable(entry{ann, 1, 4}, entry{bob, 1, 3})
	if x := l.b.View(); x.Root != better || l.b.Limit() != 300 {
		t.Fatalf("the limit is %d, the view\n%+v", l.b.Limit(), x)
	}
	out := l.tick()
	if x := l.b.View(); x.Root != me || l.b.Limit() != 4 || len(out) != 2 {
		t.Fatalf("the limit is %d, there goes out %x, the view\n%+v", l.b.Limit(), out, x)
	}
	l.wantTable()
}

// 19.2: a tick lets the table be as it is but for the ages: also a full one,
// and one of each port.
func TestTickOfAFullTable(t *testing.T) {
	l := forwards(t, 4)
	var want []entry
	for i := range 64 {
		a := uint64(ann + 257*i)
		l.in(i%4, raw(zoe, a, 0x0800))
		want = append(want, entry{api.Addr(a), i % 4, 0})
	}
	for range 20 {
		l.tick()
		for i := range want {
			want[i].age++
		}
		l.wantTable(want...)
	}
	l.in(3, raw(zoe, ann, 0x0800))
	want[0] = entry{ann, 3, 0}
	l.wantTable(want...)
	l.ticks(279)
	want = slices.Clone(want)
	for i := range want {
		want[i].age += 279
	}
	l.wantTable(want...)
	l.tick()
	l.wantTable(entry{ann, 3, 280})
}
