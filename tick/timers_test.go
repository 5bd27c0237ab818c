package tick_test

import (
	"math"
	"testing"

	"treeline/api"
	"treeline/rank"
	"treeline/tree"
)

// Each timer alone, and its limit.

// A watch is a timer of the view that watched answers, how long it runs there,
// and what is wanted of it and of all else once it ran out.
type watch struct {
	name  string
	timer func(x *tree.Tree) *api.Timer
	limit int
	done  func(want *tree.Tree) []api.Out
}

// watched answers a view of which each timer tells that it ran out: a port of
// it is on its way, one owes a configuration, one holds what may be forgotten.
func watched() tree.Tree {
	x := ledView(4)
	x.Detected, x.Change = true, true
	x.Ports[0].State = forwarding
	x.Ports[0].Ack, x.Ports[0].Pending = false, false
	x.Ports[3].Ack, x.Ports[3].Pending = false, false
	return x
}

func watches() []watch {
	return []watch{
		{"Hello", func(x *tree.Tree) *api.Timer { return &x.Hello }, nowHello, func(want *tree.Tree) []api.Out {
			want.Hello = runs(0)
			return told(want, 256, 1, 2)
		}},
		{"Tcn", func(x *tree.Tree) *api.Timer { return &x.Tcn }, mineHello, func(want *tree.Tree) []api.Out {
			want.Tcn = runs(0)
			return []api.Out{tcnBy(0)}
		}},
		{"Told", func(x *tree.Tree) *api.Timer { return &x.Told }, mineTold, func(want *tree.Tree) []api.Out {
			want.Detected, want.Change = false, false
			return nil
		}},
		{"Delay", func(x *tree.Tree) *api.Timer { return &x.Ports[1].Delay }, nowDelay, func(want *tree.Tree) []api.Out {
			want.Ports[1].State, want.Ports[1].Delay = learning, runs(0)
			return nil
		}},
		{"Age", func(x *tree.Tree) *api.Timer { return &x.Ports[3].Age }, nowMaxAge, func(want *tree.Tree) []api.Out {
			want.Ports[3].Held = rank.Vector{Root: other, Cost: 77, Bridge: me, Port: 0x8004}
			rise(&want.Ports[3])
			return nil
		}},
		{"Hold", func(x *tree.Tree) *api.Timer { return &x.Ports[2].Hold }, 256, func(want *tree.Tree) []api.Out {
			return told(want, 256, 2)
		}},
	}
}

// checkWatch lets one timer have run that long, with that limit, and all
// others rest.
func checkWatch(t *testing.T, w watch, x tree.Tree, value, limit int) {
	t.Helper()
	x = own(x)
	*w.timer(&x) = runs(value)
	want := own(x)
	later := min(value+256, longest)
	*w.timer(&want) = runs(later)
	var out []api.Out
	if later >= limit {
		*w.timer(&want) = rests
		out = w.done(&want)
	}
	check(t, x, want, out)
}

func TestNothingRuns(t *testing.T) {
	for _, x := range []tree.Tree{aloneView(0), aloneView(4), ledView(1), ledView(4), watched(), {}} {
		check(t, x, x, nil)
	}
}

// TestEachTimerAlone lets each have run for as long that it just runs out, or
// just doesn't, and for much less and more.
func TestEachTimerAlone(t *testing.T) {
	for _, w := range watches() {
		t.Run(w.name, func(t *testing.T) {
			for _, value := range []int{0, 1, 255, 256, 257, w.limit - 513, w.limit - 512, w.limit - 258, w.limit - 257, w.limit - 256, w.limit - 255, w.limit - 1, w.limit, w.limit + 1, 65536, longest - 257, longest - 256, longest - 255, longest} {
				if value >= 0 {
					checkWatch(t, w, watched(), value, w.limit)
				}
			}
		})
	}
}

// TestAllRun has all timers run, none of them long enough.
func TestAllRun(t *testing.T) {
	x := watched()
	x.Hello, x.Tcn, x.Told = runs(256), runs(517), runs(6715)
	for i := range x.Ports {
		x.Ports[i].Delay, x.Ports[i].Age = runs(3584-i), runs(4864-i)
	}
	want := own(x)
	want.Hello, want.Tcn, want.Told = runs(512), runs(773), runs(6971)
	for i := range want.Ports {
		want.Ports[i].Delay, want.Ports[i].Age = runs(3840-i), runs(5120-i)
	}
	check(t, x, want, nil)
}

// limits are a timer's, whichever numbers they are.
var limits = []int{math.MinInt, -1 << 32, -257, -256, -1, 0, 1, 255, 256, 257, 511, 512, 513, 5120, 65535, 65536, longest - 257, longest - 256, longest - 1, longest, longest + 1, 1 << 32, math.MaxInt}

// values are how long a timer may have run.
var values = []int{0, 1, 255, 256, 257, 4864, 65535, longest - 513, longest - 512, longest - 257, longest - 256, longest - 1, longest}

// TestEachLimit lets each timer's limit be any, those of all others what they are.
func TestEachLimit(t *testing.T) {
	set := map[string]func(x *tree.Tree, limit int){
		"Hello": func(x *tree.Tree, limit int) { x.Now.Hello = limit },
		"Tcn":   func(x *tree.Tree, limit int) { x.Mine.Hello = limit },
		"Delay": func(x *tree.Tree, limit int) { x.Now.Delay = limit },
		"Age":   func(x *tree.Tree, limit int) { x.Now.MaxAge = limit },
	}
	for _, w := range watches() {
		if set[w.name] == nil {
			continue
		}
		t.Run(w.name, func(t *testing.T) {
			for _, limit := range limits {
				for _, value := range values {
					checkWatch(t, w, with(watched(), func(x *tree.Tree) { set[w.name](x, limit) }), value, limit)
				}
			}
		})
	}
}

// TestToldByTheSum lets Mine's MaxAge and Delay be parts of all kinds, of
// which one may be below 0, or nearly all, and of a sum that no int holds.
func TestToldByTheSum(t *testing.T) {
	w := watches()[2]
	for _, limit := range limits {
		for _, part := range []int{0, 1, 256, 5120, -1, -256, -100000, longest, 1 << 40, -1 << 40} {
			sum := limit - part
			if (sum < limit) != (part > 0) {
				continue
			}
			for _, value := range values {
				checkWatch(t, w, with(watched(), func(x *tree.Tree) { x.Mine.MaxAge, x.Mine.Delay = part, sum }), value, limit)
				checkWatch(t, w, with(watched(), func(x *tree.Tree) { x.Mine.MaxAge, x.Mine.Delay = sum, part }), value, limit)
			}
		}
	}
	for _, parts := range [][2]int{{math.MaxInt, 1}, {1, math.MaxInt}, {math.MaxInt, math.MaxInt}, {math.MaxInt - 255, 256}, {1 << 62, 1 << 62}} {
		for _, value := range values {
			checkWatch(t, w, with(watched(), func(x *tree.Tree) { x.Mine.MaxAge, x.Mine.Delay = parts[0], parts[1] }), value, math.MaxInt)
		}
	}
	for _, parts := range [][2]int{{math.MinInt, -1}, {-1, math.MinInt}, {math.MinInt, math.MinInt}, {math.MinInt, math.MaxInt}, {-1 << 62, -1 << 62}} {
		for _, value := range values {
			checkWatch(t, w, with(watched(), func(x *tree.Tree) { x.Mine.MaxAge, x.Mine.Delay = parts[0], parts[1] }), value, -1)
		}
	}
}

// TestNoOtherLimit lets all times but a timer's own be so short that they are
// always over, or so long that they never are: nothing is otherwise by that.
// Of Hello and Hold MaxAge stays, as by that a configuration may be too old.
func TestNoOtherLimit(t *testing.T) {
	keep := map[string]func(x *tree.Tree, was tree.Tree){
		"Hello": func(x *tree.Tree, was tree.Tree) { x.Now.Hello, x.Now.MaxAge = was.Now.Hello, was.Now.MaxAge },
		"Tcn":   func(x *tree.Tree, was tree.Tree) { x.Mine.Hello = was.Mine.Hello },
		"Told":  func(x *tree.Tree, was tree.Tree) { x.Mine.MaxAge, x.Mine.Delay = was.Mine.MaxAge, was.Mine.Delay },
		"Delay": func(x *tree.Tree, was tree.Tree) { x.Now.Delay = was.Now.Delay },
		"Age":   func(x *tree.Tree, was tree.Tree) { x.Now.MaxAge = was.Now.MaxAge },
		"Hold":  func(x *tree.Tree, was tree.Tree) { x.Now.MaxAge = was.Now.MaxAge },
	}
	for _, w := range watches() {
		t.Run(w.name, func(t *testing.T) {
			for _, long := range limits {
				x := watched()
				x.Now = tree.Times{MaxAge: long, Hello: long, Delay: long}
				x.Mine = tree.Times{MaxAge: long, Hello: long, Delay: long}
				keep[w.name](&x, watched())
				for _, value := range []int{w.limit - 257, w.limit - 256, w.limit} {
					if value >= 0 {
						checkWatch(t, w, x, value, w.limit)
					}
				}
			}
		})
	}
}

// TestEachOfManyPorts lets one timer of each port in turn run out, of ports
// that all have others that don't.
func TestEachOfManyPorts(t *testing.T) {
	for which := range 3 {
		for place := range 40 {
			x := ledView(40)
			for i := range x.Ports {
				x.Ports[i].Delay, x.Ports[i].Age = runs(1000+i), runs(2000+i)
			}
			p := &x.Ports[place]
			switch which {
			case 0:
				p.Delay = ahead(nowDelay)
			case 1:
				p.Age = ahead(nowMaxAge)
			case 2:
				p.Hold = runs(0)
			}
			checkPlain(t, x)
		}
	}
}
