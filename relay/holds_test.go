package relay_test

import (
	"slices"
	"testing"

	"treeline/api"
	"treeline/relay"
)

// keeps tells what is wrong with an answer of Ports, of whatever it was asked:
// nothing goes back by the port in, nor by one that doesn't forward; the
// answer rises, so that it names no port twice.
func keeps(t *testing.T, f api.Frame, in int, states []int, where int, known bool) []int {
	t.Helper()
	goes := relay.Ports(f, in, states, where, known)
	last := -1
	for _, i := range goes {
		switch {
		case i <= last || i >= len(states):
			t.Fatalf("Ports(%+v, %d, %d, %d, %t) = %d: it doesn't rise, or names no port", f, in, states, where, known, goes)
		case i == in:
			t.Fatalf("Ports(%+v, %d, %d, %d, %t) = %d: it goes back", f, in, states, where, known, goes)
		case states[i] != forwarding:
			t.Fatalf("Ports(%+v, %d, %d, %d, %t) = %d: by a port of the state %d", f, in, states, where, known, goes, states[i])
		}
		last = i
	}
	return goes
}

// 18.3: no frame goes back by the port that heard it, nor by one that doesn't
// forward, of all states of five ports.
func TestNeverBack(t *testing.T) {
	states := make([]int, 5)
	some := append(slices.Clone(allStates), 5, -4, 260)
	for n := range 8 * 8 * 8 * 8 * 8 {
		for i := range states {
			states[i] = some[n>>(3*i)%8]
		}
		for in := range states {
			keeps(t, to(api.Broadcast), in, states, in, n%2 == 0)
			keeps(t, to(5), in, states, in, true)
			keeps(t, to(5), in, states, n%5, n%2 == 1)
			keeps(t, to(5), in, states, n%7-1, true)
		}
	}
}

// 18.3, and P5: what bridges tell each other, and what is reserved, is never
// relayed, nor is anybody learnt of it.
func TestNeverRelayed(t *testing.T) {
	for i := range api.Addr(16) {
		for kind := 0; kind < 65536; kind += 37 {
			f := tells()
			f.To, f.Kind = reserved+i, uint16(kind)
			for in := range 4 {
				if goes := keeps(t, f, in, forwards(4), (in+1)%4, kind%2 == 0); len(goes) != 0 {
					t.Fatalf("%+v goes on by %d", f, goes)
				}
			}
			checkLearns(t, f, forwarding, false)
		}
	}
}

// 18.2, 18.3: what goes on by a port that is known is among what would go on,
// if it weren't; and whoever is heard behind any port that forwards is reached.
func TestKnownIsAmongAll(t *testing.T) {
	for _, states := range [][]int{mixed(), forwards(4), forwards(2)} {
		for in := range states {
			all := keeps(t, to(5), in, states, 0, false)
			for where := range states {
				one := keeps(t, to(5), in, states, where, true)
				if want := slices.Contains(all, where); want != slices.Equal(one, []int{where}) || !want && len(one) > 0 {
					t.Errorf("in %d of %d: known behind %d: %d; else %d", in, states, where, one, all)
				}
			}
		}
	}
}
