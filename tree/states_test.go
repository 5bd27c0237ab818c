package tree_test

import (
	"math"
	"testing"

	"treeline/api"
	"treeline/rank"
	"treeline/tree"
)

// The parts that a port plays in a view.
const (
	toRoot = iota
	telling
	both
	neither
)

var parts = []struct {
	name        string
	leads, told bool
}{
	toRoot:  {"it leads to the root", true, false},
	telling: {"it is designated", false, true},
	both:    {"it leads to the root, and is designated", true, true},
	neither: {"neither", false, false},
}

// plainState is what States should make of a port, told field by field.
func plainState(p api.Port, leads, designated bool) (api.Port, bool) {
	lost := false
	if leads || designated {
		if p.State == blocking {
			p.State, p.Delay = listening, runs(0)
		}
	} else if p.State != disabled && p.State != blocking {
		lost = p.State == learning || p.State == forwarding
		p.State, p.Delay = blocking, rests
	}
	if leads || !designated {
		p.Pending, p.Ack = false, false
	}
	if designated && !leads {
		p.Age = rests
	}
	return p, lost
}

// someTimers answers timers that run and rest, at 0, at the greatest Value, and between.
func someTimers() []api.Timer {
	return []api.Timer{rests, runs(0), runs(3840), runs(longest)}
}

// variants answers ports of a state: each of the three timers running and
// resting, each thing that is owed owed or not.
func variants(state int) []api.Port {
	var out []api.Port
	p := fullPort(4)
	p.State = state
	for owes := range 4 {
		p.Ack, p.Pending = owes&1 != 0, owes&2 != 0
		for _, age := range someTimers() {
			for _, delay := range someTimers() {
				for _, hold := range someTimers() {
					p.Age, p.Delay, p.Hold = age, delay, hold
					out = append(out, p)
				}
			}
		}
	}
	return out
}

// play answers a view in which a port plays that part, and its place.
func play(p api.Port, part, place int, others ...api.Port) tree.Tree {
	p.Held.Bridge, p.Held.Port = me+1, p.Id+1
	if parts[part].told {
		p.Held.Bridge, p.Held.Port = me, p.Id
	}
	ports := append(append(append([]api.Port(nil), others[:place]...), p), others[place:]...)
	x := seen(ports...)
	x.RootPort = -1
	if parts[part].leads {
		x.RootPort = place
	}
	return x
}

// 13.3: States.

// TestStates lets a port play each part in each state, whatever it owes and
// whichever timer of it runs.
func TestStates(t *testing.T) {
	for part, c := range parts {
		t.Run(c.name, func(t *testing.T) {
			for _, state := range anyStates() {
				for _, p := range variants(state) {
					x := play(p, part, 0)
					want := own(x)
					var lost bool
					want.Ports[0], lost = plainState(x.Ports[0], c.leads, c.told)
					checkStates(t, x, want, lost)
				}
			}
		})
	}
}

// TestStatesOfEachPart tells the answers as they are, of a port that owes
// everything, and all timers of which run.
func TestStatesOfEachPart(t *testing.T) {
	for _, c := range []struct {
		part, state int
		want        int
		begun, lost bool // its Delay begins, and it is lost
	}{
		{toRoot, disabled, disabled, false, false},
		{toRoot, blocking, listening, true, false},
		{toRoot, listening, listening, false, false},
		{toRoot, learning, learning, false, false},
		{toRoot, forwarding, forwarding, false, false},
		{toRoot, 5, 5, false, false},
		{telling, disabled, disabled, false, false},
		{telling, blocking, listening, true, false},
		{telling, listening, listening, false, false},
		{telling, learning, learning, false, false},
		{telling, forwarding, forwarding, false, false},
		{telling, -1, -1, false, false},
		{both, disabled, disabled, false, false},
		{both, blocking, listening, true, false},
		{both, forwarding, forwarding, false, false},
		{neither, disabled, disabled, false, false},
		{neither, blocking, blocking, false, false},
		{neither, listening, blocking, false, false},
		{neither, learning, blocking, false, true},
		{neither, forwarding, blocking, false, true},
		{neither, 5, blocking, false, false},
	} {
		p := fullPort(4)
		p.State = c.state
		x := play(p, c.part, 0)
		want := own(x)
		q := &want.Ports[0]
		q.State = c.want
		if c.begun {
			q.Delay = runs(0)
		}
		if c.want != c.state && !c.begun {
			q.Delay = rests
		}
		switch c.part {
		case toRoot, both:
			q.Pending, q.Ack = false, false
		case telling:
			q.Age = rests
		default:
			q.Pending, q.Ack = false, false
		}
		checkStates(t, x, want, c.lost)
	}
}

// TestStatesOfWhoIsDesignated lets one of the two numbers alone be its own.
func TestStatesOfWhoIsDesignated(t *testing.T) {
	for _, c := range []struct {
		bridge api.BridgeId
		number api.PortId
		want   bool
	}{
		{me, 0x8005, true}, {me, 0x8004, false}, {me, 0x0005, false}, {me, 0, false},
		{me + 1, 0x8005, false}, {me - 1, 0x8005, false}, {me + 1<<48, 0x8005, false}, {0, 0, false},
	} {
		p := fullPort(4)
		p.State, p.Held.Bridge, p.Held.Port = forwarding, c.bridge, c.number
		x := seen(p)
		x.RootPort = -1
		want := own(x)
		want.Ports[0], _ = plainState(p, false, c.want)
		checkStates(t, x, want, !c.want)
	}
}

// TestStatesWhereNoPortLeads has a number that is no place of a port to the root.
func TestStatesWhereNoPortLeads(t *testing.T) {
	for _, place := range append([]int{4}, noPlaces...) {
		x := seen(fullPort(0), fullPort(1), fullPort(2), fullPort(3))
		x.RootPort = place
		x.Ports[1].Held.Bridge, x.Ports[1].Held.Port = me, x.Ports[1].Id
		want := own(x)
		for i, p := range x.Ports {
			want.Ports[i], _ = plainState(p, false, i == 1)
		}
		checkStates(t, x, want, true)
	}
	for _, place := range append([]int{0, 1}, noPlaces...) {
		for _, x := range []tree.Tree{{RootPort: place}, {RootPort: place, Ports: []api.Port{}}} {
			checkStates(t, x, x, false)
		}
	}
}

// TestStatesWhoeverIsTheRoot lets the view know any root, and how far it is,
// and ports hold any: that changes nothing.
func TestStatesWhoeverIsTheRoot(t *testing.T) {
	for _, known := range []api.BridgeId{0, 400, me, me + 1, math.MaxUint64} {
		for _, held := range []api.BridgeId{0, 400, me, me + 1, math.MaxUint64} {
			for _, cost := range []uint32{0, 7, math.MaxUint32} {
				for part, c := range parts {
					p := fullPort(4)
					p.State, p.Held.Root, p.Held.Cost = forwarding, held, cost
					x := play(p, part, 0)
					x.Root, x.Cost = known, cost
					want := own(x)
					var lost bool
					want.Ports[0], lost = plainState(x.Ports[0], c.leads, c.told)
					checkStates(t, x, want, lost)
				}
			}
		}
	}
}

// TestStatesTellsWhatWasLost blocks a port of each state at each place, among
// others of which none was lost, or all were.
func TestStatesTellsWhatWasLost(t *testing.T) {
	for _, other := range []int{disabled, blocking, listening, learning, forwarding} {
		for place := range 4 {
			for _, state := range anyStates() {
				for part, c := range parts {
					others := make([]api.Port, 3)
					for i := range others {
						others[i] = fullPort(10 + i)
						others[i].State = other
					}
					p := fullPort(4)
					p.State = state
					x := play(p, part, place, others...)
					want := own(x)
					lost := other == learning || other == forwarding
					for i, q := range x.Ports {
						var was bool
						want.Ports[i], was = plainState(q, i == place && c.leads, i == place && c.told)
						lost = lost || was
					}
					checkStates(t, x, want, lost)
				}
			}
		}
	}
}

// TestStatesAgain finds nothing more to do.
func TestStatesAgain(t *testing.T) {
	for part := range parts {
		for _, state := range anyStates() {
			x, _ := tree.States(play(fullPort(4), part, 0))
			checkStates(t, x, x, false)
			p := fullPort(4)
			p.State = state
			x, _ = tree.States(play(p, part, 1, fullPort(0), fullPort(1)))
			checkStates(t, x, x, false)
		}
	}
}

// TestStatesAtEachPlace has a thousand ports, the parts of which change round.
func TestStatesAtEachPlace(t *testing.T) {
	x := seen()
	for i := range 1000 {
		p := fullPort(i)
		p.State = i % 6
		p.Held = rank.Vector{Root: 400, Cost: 1, Bridge: me, Port: p.Id + api.PortId(i/6%2)}
		x.Ports = append(x.Ports, p)
	}
	for _, place := range []int{-1, 0, 1, 500, 999} {
		x.RootPort = place
		want := own(x)
		for i, p := range x.Ports {
			want.Ports[i], _ = plainState(p, i == place, i/6%2 == 0)
		}
		checkStates(t, x, want, true)
	}
}
