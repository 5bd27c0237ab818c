package heard_test

import (
	"slices"
	"testing"

	"treeline/api"
	"treeline/tree"
)

// 15.3: Bytes.

// checkBytes wants the view, what goes out and the error that are told.
func checkBytes(t *testing.T, x tree.Tree, place int, b []byte, want tree.Tree, out []api.Out, e api.Errno) {
	t.Helper()
	check(t, "Bytes", bytesOf(t, place, b, e), x, want, out)
}

// checkRefused wants the view as it was, nothing that goes out, and the error.
func checkRefused(t *testing.T, x tree.Tree, place int, b []byte, e api.Errno) {
	t.Helper()
	checkBytes(t, x, place, b, x, nil, e)
}

// someBytes are bytes of each kind: a configuration that every port takes, a
// TCN, and those of each error, also what the port 0x8002 of me would tell.
func someBytes() map[api.Errno][][]byte {
	good := plainPut(telling(1, 2, 3, 4))
	far, old, itsOwn := telling(1, 1<<31, 3, 4), telling(1, 2, 3, 4), telling(1, 2, me, 0x8002)
	old.Age = old.MaxAge
	return map[api.Errno][][]byte{
		fine:     {good, {0, 0, 0, 0x80}},
		errShort: {nil, {}, {0, 0, 0}, good[:34]},
		errForm:  {{1, 0, 0, 0}, {0, 0, 0, 1}, append([]byte{0, 0, 1}, good[3:]...)},
		errLong:  {plainPut(far)},
		errAge:   {plainPut(old)},
		errOwn:   {plainPut(itsOwn)},
	}
}

// TestBytesOfNoPort hands in bytes of each kind: whatever is wrong with them,
// that there is no port is told.
func TestBytesOfNoPort(t *testing.T) {
	for _, kind := range someBytes() {
		for _, b := range kind {
			for ports := range 4 {
				for _, place := range append([]int{ports, ports + 1, ports - 256, ports + 1<<32}, noPlaces...) {
					checkRefused(t, aloneView(ports), place, b, errNone)
				}
			}
			checkRefused(t, tree.Tree{}, 0, b, errNone)
			checkRefused(t, ledView(1000), 1000, b, errNone)
		}
	}
}

// TestBytesOfEachState hands them to a port in each state: a Disabled one
// isn't one that hears; each other one answers what they are.
func TestBytesOfEachState(t *testing.T) {
	for e, kind := range someBytes() {
		for _, b := range kind {
			for _, state := range anyStates {
				for _, x := range []tree.Tree{ledView(3), aloneView(3)} {
					x.Ports[1].State = state
					if state == disabled {
						checkRefused(t, x, 1, b, errNone)
						continue
					}
					want, out, plain := plainBytes(x, 1, b)
					if plain != e {
						t.Fatalf("%x should answer %d, and not %d", b, e, plain)
					}
					checkBytes(t, x, 1, b, want, out, e)
				}
			}
		}
	}
}

// TestBytesOfEachLength cuts a configuration and a TCN at each length, and
// lets bytes stand behind them: those count for nothing.
func TestBytesOfEachLength(t *testing.T) {
	b := plainPut(telling(other, 10, next, 0x8009))
	for _, x := range []tree.Tree{ledView(4), aloneView(4)} {
		for place := range 4 {
			want, out := plainConfig(x, place, telling(other, 10, next, 0x8009))
			for n := range 80 {
				long := append(slices.Clone(b), slices.Repeat([]byte{0xee}, 45)...)[:n]
				if n < 35 {
					checkRefused(t, x, place, long, errShort)
				} else {
					checkBytes(t, x, place, long, want, out, fine)
				}
			}
			want, out = plainTcn(x, place)
			for n := range 80 {
				long := append([]byte{0, 0, 0, 0x80}, slices.Repeat([]byte{0xee}, 76)...)[:n]
				if n < 4 {
					checkRefused(t, x, place, long, errShort)
				} else {
					checkBytes(t, x, place, long, want, out, fine)
				}
			}
		}
	}
	huge := append(slices.Clone(b), make([]byte, 70000)...)
	want, out := plainConfig(ledView(4), 0, telling(other, 10, next, 0x8009))
	checkBytes(t, ledView(4), 0, huge, want, out, fine)
}

// TestBytesOfEachFormLength lets what isn't of its kind be of each length.
func TestBytesOfEachFormLength(t *testing.T) {
	for n := range 40 {
		for at := range 4 {
			b := make([]byte, max(n, 4))
			b[at] = 0x40
			e := api.Errno(errForm)
			if n < 4 {
				e = errShort
			}
			checkRefused(t, ledView(4), 0, b[:n], e)
		}
	}
}

// TestBytesOfEachBit turns each bit of a configuration, and of a TCN.
func TestBytesOfEachBit(t *testing.T) {
	for _, b := range [][]byte{plainPut(telling(other, 58, next, 0x8003)), plainPut(telling(other, 77, me, 0x8003)), {0, 0, 0, 0x80}} {
		for bit := range 8 * len(b) {
			c := slices.Clone(b)
			c[bit/8] ^= 1 << (bit % 8)
			for _, x := range []tree.Tree{ledView(4), aloneView(4)} {
				for place := range 4 {
					want, out, e := plainBytes(x, place, c)
					checkBytes(t, x, place, c, want, out, e)
				}
			}
		}
	}
}

// TestBytesTooFarAndTooOld lets Cost and Age be on each side of what may be;
// of several errors it is the first one.
func TestBytesTooFarAndTooOld(t *testing.T) {
	for _, x := range []tree.Tree{ledView(3), aloneView(3)} {
		for _, c := range []struct {
			cost        uint32
			age, maxAge uint16
			want        api.Errno
		}{
			{1<<31 - 1, 0, 1, fine}, {1<<31 - 1, 65534, 65535, fine}, {0, 255, 256, fine},
			{1 << 31, 0, 1, errLong}, {1<<32 - 1, 0, 65535, errLong}, {1 << 31, 9, 9, errLong},
			{0, 0, 0, errAge}, {0, 1, 1, errAge}, {0, 2, 1, errAge}, {1<<31 - 1, 65535, 65535, errAge}, {0, 65535, 0, errAge},
		} {
			for _, from := range []api.BridgeId{3, me} {
				b := telling(1, c.cost, from, 0x8002)
				b.Age, b.MaxAge = c.age, c.maxAge
				e := c.want
				if e == fine && from == me {
					e = errOwn
				}
				if e != fine {
					checkRefused(t, x, 1, plainPut(b), e)
					continue
				}
				want, out := plainConfig(x, 1, b)
				if want.Root != 1 {
					t.Fatalf("%+v isn't heard", b)
				}
				checkBytes(t, x, 1, plainPut(b), want, out, fine)
			}
		}
	}
}

// TestBytesOfItsOwn has each port hear what each port of its bridge would
// tell: only what it would tell itself is refused, whatever else is told.
func TestBytesOfItsOwn(t *testing.T) {
	for _, x := range []tree.Tree{ledView(4), aloneView(4)} {
		for place := range 4 {
			for from := range 4 {
				for _, root := range []api.BridgeId{1, x.Root, 1 << 63} {
					b := telling(root, x.Cost, me, x.Ports[from].Id)
					if from == place {
						checkRefused(t, x, place, plainPut(b), errOwn)
						continue
					}
					want, out := plainConfig(x, place, b)
					checkBytes(t, x, place, plainPut(b), want, out, fine)
				}
			}
		}
	}
}

// TestBytesOfItsOwnByEachBit turns each bit of whose it is: it is another's then.
func TestBytesOfItsOwnByEachBit(t *testing.T) {
	for bit := range 80 {
		b := telling(1, 2, me, 0x8002)
		if bit < 64 {
			b.Bridge ^= 1 << bit
		} else {
			b.Port ^= 1 << (bit - 64)
		}
		want, out := plainConfig(ledView(3), 1, b)
		checkBytes(t, ledView(3), 1, plainPut(b), want, out, fine)
	}
}

// TestBytesOfATcn has designated ports and others hear one.
func TestBytesOfATcn(t *testing.T) {
	for _, x := range []tree.Tree{ledView(4), aloneView(4)} {
		for place := range 4 {
			for _, detected := range []bool{false, true} {
				x.Detected = detected
				want, out := plainTcn(x, place)
				if hears := x.Root == me || place == 1 || place == 2; hears == same(x, want) {
					t.Fatalf("the port %d hears a TCN: %t", place, !hears)
				}
				checkBytes(t, x, place, []byte{0, 0, 0, 0x80}, want, out, fine)
			}
		}
	}
}

// TestBytesOfWhatGoesOut lets a ring of three bridges hear what goes out of
// each other, until nothing does: all know the root, and how far it is, and
// the port that leads nowhere is blocked.
func TestBytesOfWhatGoesOut(t *testing.T) {
	views := ring()
	for who, x := range views {
		y, out := plainTellAll(x)
		views[who] = y
		pass(t, views[:], who, out, 0)
	}
	for who, x := range views {
		want := [3]struct{ cost, port int }{{0, -1}, {19, 0}, {19, 1}}[who]
		if x.Root != 1 || int(x.Cost) != want.cost || x.RootPort != want.port {
			t.Errorf("the bridge %d knows\n%+v", who, x)
		}
		for i, p := range x.Ports {
			if blocked := who == 2 && i == 0; blocked != (p.State == blocking) {
				t.Errorf("the port %d of the bridge %d is\n%+v", i, who, p)
			}
		}
	}
}

// ring answers views of three bridges that begin, each of whose ports 1 is on
// the LAN of the next one's port 0.
func ring() [3]tree.Tree {
	var views [3]tree.Tree
	for who := range views {
		id := api.BridgeId(1 + who)
		x := tree.Tree{Own: id, Root: id, RootPort: -1, Now: tree.Times{MaxAge: 5120, Hello: 512, Delay: 3840}, Mine: tree.Times{MaxAge: 5120, Hello: 512, Delay: 3840}}
		for i := range 2 {
			p := fullPort(i)
			p.Cost, p.State, p.Ack, p.Pending, p.Age, p.Delay = 19, listening, false, false, rests, runs(0)
			p.Held.Root, p.Held.Bridge = id, id
			x.Ports = append(x.Ports, p)
		}
		views[who] = x
	}
	return views
}

// pass lets what goes out of a bridge be heard by those behind its ports, and
// what goes out of those by others. No Hold hinders them.
func pass(t *testing.T, views []tree.Tree, who int, out []api.Out, deep int) {
	t.Helper()
	if deep > 50 {
		t.Fatalf("there is no end to it")
	}
	for _, o := range out {
		next, place := (who+1)%3, 0
		if o.Port == 0 {
			next, place = (who+2)%3, 1
		}
		x := own(views[next])
		for i := range x.Ports {
			x.Ports[i].Hold = rests
		}
		y, more, e := plainBytes(x, place, o.Frame.Data[3:])
		if e != fine {
			t.Fatalf("%x is refused: %d", o.Frame.Data, e)
		}
		checkBytes(t, x, place, o.Frame.Data[3:], y, more, fine)
		views[next] = y
		pass(t, views, next, more, deep+1)
	}
}
