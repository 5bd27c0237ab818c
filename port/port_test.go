package port_test

import (
	"fmt"
	"math"
	"math/rand/v2"
	"testing"

	"treeline/api"
	"treeline/port"
	"treeline/rank"
	"treeline/timer"
)

// The states by their numbers, written out apart from the package's names.
const (
	disabled = iota
	blocking
	listening
	learning
	forwarding
)

// longest is the greatest Value of a timer.
const longest = 1 << 30

// noStates are numbers that none of the five states has, some of which a cut
// to fewer bits, or a lost sign, would make one of them.
var noStates = []int{
	math.MinInt, math.MinInt + 1, math.MinInt + 2, math.MinInt + 3, math.MinInt + 4, math.MinInt32, -1<<32 + 3, -1<<32 + 4,
	-256 + 3, -256 + 4, -255, -5, -4, -3, -2, -1,
	5, 6, 7, 8, 9, 10, 11, 12, 16, 17, 18, 19, 20, 31, 34, 35, 36, 127, 128, 255,
	256, 257, 258, 259, 260, 1<<16 + 1, 1<<16 + 2, 1<<16 + 3, 1<<16 + 4, math.MaxInt32,
	1 << 32, 1<<32 + 1, 1<<32 + 2, 1<<32 + 3, 1<<32 + 4, 1<<62 + 4, math.MaxInt - 1, math.MaxInt,
}

// anyStates answers the five states, and numbers that none of them has.
func anyStates() []int {
	return append([]int{disabled, blocking, listening, learning, forwarding}, noStates...)
}

// The edges of a port's other numbers.
var (
	portIds = []api.PortId{0, 1, 2, 0x7f, 0x80, 0xff, 0x100, 0x101, 0x8001, 0x8002, 0x7fff, 0x8000, 0xff01, 0xfffe, 0xffff}
	costs   = []uint32{0, 1, 19, 65535, 65536, 1<<31 - 1, 1 << 31, math.MaxUint32 - 1, math.MaxUint32}
	bridges = []api.BridgeId{0, 1, 2, 1<<32 - 1, 1 << 32, 1<<48 - 1, 1 << 48, 0x8000<<48 + 257, 1<<63 - 1, 1 << 63, math.MaxUint64 - 1, math.MaxUint64}
)

// rests is a timer that rests, made without the layer below.
var rests = api.Timer{}

// runs answers a timer that has run that long.
func runs(value int) api.Timer {
	return api.Timer{On: true, Value: value}
}

// someTimers answers timers that run and rest, at 0, at the greatest Value, and between.
func someTimers() []api.Timer {
	return []api.Timer{rests, runs(0), runs(1), runs(256), runs(3840), runs(longest - 1), runs(longest)}
}

// full answers a port none of whose fields is 0 or false, and no two of whose numbers are alike.
func full(state int) port.Port {
	return port.Port{
		Id: 0x8003, State: state, Cost: 19,
		Held: rank.Vector{Root: 1001, Cost: 1002, Bridge: 1003, Port: 1004},
		Ack:  true, Pending: true,
		Age: runs(1005), Delay: runs(1006), Hold: runs(1007),
	}
}

// owns answers tellings of some edges of each number.
func owns() []rank.Vector {
	var out []rank.Vector
	for i, root := range bridges {
		for j, cost := range costs {
			out = append(out,
				rank.Vector{Root: root, Cost: cost, Bridge: bridges[(i+j)%len(bridges)], Port: portIds[(3*i+j)%len(portIds)]},
				rank.Vector{Root: root, Cost: cost, Bridge: root, Port: 0})
		}
	}
	return out
}

// variants answers ports of a state: each of the three timers running and
// resting, each thing that is owed owed or not, holding little and much.
func variants(state int) []port.Port {
	var out []port.Port
	for _, p := range []port.Port{full(state), {State: state}, port.New(0x8001, 100, true, rank.Vector{Root: 5, Cost: 6, Bridge: 7, Port: 8})} {
		p.State = state
		for owes := range 4 {
			p.Ack, p.Pending = owes&1 != 0, owes&2 != 0
			for _, age := range someTimers() {
				for _, delay := range someTimers() {
					for _, hold := range someTimers() {
						p.Age, p.Delay, p.Hold = age, delay, hold
						out = append(out, p)
					}
				}
			}
		}
	}
	return out
}

func checkNew(t *testing.T, id api.PortId, cost uint32, on bool, own rank.Vector) {
	t.Helper()
	want := port.Port{Id: id, State: disabled, Cost: cost, Held: rank.Vector{Root: own.Root, Cost: own.Cost, Bridge: own.Bridge, Port: id}}
	if on {
		want.State = blocking
	}
	had := own
	if got := port.New(id, cost, on, own); got != want {
		t.Fatalf("New(%d, %d, %t, %+v) = %+v, want %+v", id, cost, on, own, got, want)
	}
	if own != had {
		t.Fatalf("New changes %+v to %+v", had, own)
	}
}

func checkBecome(t *testing.T, p port.Port, own rank.Vector) {
	t.Helper()
	want := p
	want.Held = rank.Vector{Root: own.Root, Cost: own.Cost, Bridge: own.Bridge, Port: p.Id}
	hadP, hadOwn := p, own
	got := port.Become(p, own)
	if got != want {
		t.Fatalf("Become(%+v, %+v) = %+v, want %+v", p, own, got, want)
	}
	if p != hadP || own != hadOwn {
		t.Fatalf("Become changes %+v, %+v to %+v, %+v", hadP, hadOwn, p, own)
	}
	if again := port.Become(got, own); again != want {
		t.Fatalf("Become(%+v, %+v) again = %+v", p, own, again)
	}
}

func checkDesignated(t *testing.T, p port.Port, own api.BridgeId, want bool) {
	t.Helper()
	had := p
	if got := port.Designated(p, own); got != want {
		t.Fatalf("Designated(%+v, %d) = %t, want %t", p, own, got, want)
	}
	if p != had {
		t.Fatalf("Designated changes %+v to %+v", had, p)
	}
}

func checkRise(t *testing.T, p, want port.Port) {
	t.Helper()
	had := p
	if got := port.Rise(p); got != want {
		t.Fatalf("Rise(%+v) = %+v, want %+v", p, got, want)
	}
	if p != had {
		t.Fatalf("Rise changes %+v to %+v", had, p)
	}
}

func checkBlock(t *testing.T, p, want port.Port, lost bool) {
	t.Helper()
	checkStep(t, "Block", port.Block, p, want, lost)
}

func checkNext(t *testing.T, p, want port.Port, forwards bool) {
	t.Helper()
	checkStep(t, "Next", port.Next, p, want, forwards)
}

// checkStep makes a call that answers a port, and tells something of it.
func checkStep(t *testing.T, name string, step func(port.Port) (port.Port, bool), p, want port.Port, tells bool) {
	t.Helper()
	had := p
	if got, told := step(p); got != want || told != tells {
		t.Fatalf("%s(%+v) = %+v, %t, want %+v, %t", name, p, got, told, want, tells)
	}
	if p != had {
		t.Fatalf("%s changes %+v to %+v", name, had, p)
	}
}

// 12.1: New.

func TestNew(t *testing.T) {
	own := rank.Vector{Root: 11, Cost: 12, Bridge: 13, Port: 14}
	for _, c := range []struct {
		on   bool
		want port.Port
	}{
		{true, port.Port{Id: 0x8002, State: blocking, Cost: 19, Held: rank.Vector{Root: 11, Cost: 12, Bridge: 13, Port: 0x8002}}},
		{false, port.Port{Id: 0x8002, State: disabled, Cost: 19, Held: rank.Vector{Root: 11, Cost: 12, Bridge: 13, Port: 0x8002}}},
	} {
		got := port.New(0x8002, 19, c.on, own)
		if got != c.want {
			t.Errorf("New, on %t: %+v, want %+v", c.on, got, c.want)
		}
		if got.Ack || got.Pending {
			t.Errorf("New, on %t: it owes something: %+v", c.on, got)
		}
		if got.Age != timer.Stop() || got.Delay != timer.Stop() || got.Hold != timer.Stop() {
			t.Errorf("New, on %t: its timers don't rest: %+v", c.on, got)
		}
	}
}

func TestNewOfEachEdge(t *testing.T) {
	for _, on := range []bool{true, false} {
		for _, id := range portIds {
			for _, cost := range costs {
				for _, own := range owns() {
					checkNew(t, id, cost, on, own)
				}
			}
		}
	}
}

func TestNewOfEachNumber(t *testing.T) {
	own := rank.Vector{Root: 1, Cost: 2, Bridge: 3, Port: 4}
	for id := range math.MaxUint16 + 1 {
		checkNew(t, api.PortId(id), 19, id%2 == 0, own)
	}
}

// TestNewWhateverThePort hands in tellings that differ in their Port alone:
// the port is the same one of them all.
func TestNewWhateverThePort(t *testing.T) {
	for _, id := range portIds {
		want := port.New(id, 7, true, rank.Vector{Root: 1, Cost: 2, Bridge: 3})
		for _, other := range append([]api.PortId{id, id + 1, id - 1, id ^ 0xff00, id ^ 0x00ff}, portIds...) {
			if got := port.New(id, 7, true, rank.Vector{Root: 1, Cost: 2, Bridge: 3, Port: other}); got != want {
				t.Fatalf("New of the port %d by a telling of %d = %+v, want %+v", id, other, got, want)
			}
		}
	}
}

// 12.1: Become.

func TestBecome(t *testing.T) {
	got := port.Become(full(learning), rank.Vector{Root: 21, Cost: 22, Bridge: 23, Port: 24})
	want := port.Port{
		Id: 0x8003, State: learning, Cost: 19,
		Held: rank.Vector{Root: 21, Cost: 22, Bridge: 23, Port: 0x8003},
		Ack:  true, Pending: true,
		Age: runs(1005), Delay: runs(1006), Hold: runs(1007),
	}
	if got != want {
		t.Errorf("Become = %+v, want %+v", got, want)
	}
}

func TestBecomeChangesWhatItHoldsAlone(t *testing.T) {
	for _, state := range anyStates() {
		for _, own := range owns() {
			checkBecome(t, full(state), own)
			checkBecome(t, port.Port{State: state}, own)
		}
	}
	for _, state := range []int{disabled, blocking, listening, learning, forwarding, 5, -1} {
		for _, p := range variants(state) {
			checkBecome(t, p, rank.Vector{Root: 31, Cost: 32, Bridge: 33, Port: 34})
			checkBecome(t, p, rank.Vector{})
			checkBecome(t, p, p.Held)
		}
	}
}

func TestBecomeOfEachNumber(t *testing.T) {
	for id := range math.MaxUint16 + 1 {
		p := full(forwarding)
		p.Id = api.PortId(id)
		checkBecome(t, p, rank.Vector{Root: 1, Cost: 2, Bridge: 3, Port: p.Id ^ 0x8001})
		checkBecome(t, p, rank.Vector{Root: 1, Cost: 2, Bridge: 3, Port: p.Id})
	}
}

func TestBecomeWhatever(t *testing.T) {
	p := full(blocking)
	for _, own := range owns() {
		for _, held := range []rank.Vector{{}, own, {Root: 1, Cost: 1, Bridge: 1, Port: p.Id}, {Root: math.MaxUint64, Cost: math.MaxUint32, Bridge: math.MaxUint64, Port: math.MaxUint16}} {
			p.Held = held
			checkBecome(t, p, own)
		}
	}
}

// 12.1: Designated.

func TestDesignated(t *testing.T) {
	for _, c := range []struct {
		name   string
		bridge api.BridgeId
		number api.PortId
		want   bool
	}{
		{"neither is another one", 77, 0x8003, true},
		{"the bridge is another one", 78, 0x8003, false},
		{"the number is another one", 77, 0x8004, false},
		{"both are", 78, 0x8004, false},
	} {
		for _, state := range anyStates() {
			p := full(state)
			p.Held.Bridge, p.Held.Port = c.bridge, c.number
			if got := port.Designated(p, 77); got != c.want {
				t.Errorf("%s, state %d: %t", c.name, state, got)
			}
		}
	}
}

// TestDesignatedLooksAtNoMore lets what else there is be alike where what
// counts isn't, and the other way round.
func TestDesignatedLooksAtNoMore(t *testing.T) {
	for _, p := range variants(forwarding) {
		p.Held = rank.Vector{Root: 5, Cost: p.Cost, Bridge: 6, Port: p.Id}
		checkDesignated(t, p, 5, false)
		checkDesignated(t, p, 6, true)
		p.Held = rank.Vector{Root: 6, Cost: 0, Bridge: 6, Port: p.Id + 1}
		checkDesignated(t, p, 6, false)
		p.Held = rank.Vector{Root: 6, Cost: 0, Bridge: 7, Port: p.Id}
		checkDesignated(t, p, 6, false)
	}
	checkDesignated(t, port.Port{}, 0, true)
	checkDesignated(t, port.Port{}, 1, false)
	checkDesignated(t, port.Port{Id: 1}, 0, false)
	checkDesignated(t, port.Port{Held: rank.Vector{Port: 1}}, 0, false)
	checkDesignated(t, port.Port{Held: rank.Vector{Bridge: 1}}, 0, false)
}

func TestDesignatedOfEachEdge(t *testing.T) {
	for _, own := range bridges {
		for _, bridge := range bridges {
			for _, id := range portIds {
				for _, number := range portIds {
					p := full(listening)
					p.Id, p.Held.Bridge, p.Held.Port = id, bridge, number
					checkDesignated(t, p, own, own == bridge && id == number)
				}
			}
		}
	}
}

// TestDesignatedOfEachBit lets one bit of one number be another one.
func TestDesignatedOfEachBit(t *testing.T) {
	const own api.BridgeId = 0x5555555555555555
	p := full(blocking)
	p.Id, p.Held.Bridge, p.Held.Port = 0x5555, own, 0x5555
	checkDesignated(t, p, own, true)
	for bit := range 64 {
		q := p
		q.Held.Bridge ^= 1 << bit
		checkDesignated(t, q, own, false)
		checkDesignated(t, p, own^1<<bit, false)
		checkDesignated(t, q, own^1<<bit, true)
	}
	for bit := range 16 {
		q := p
		q.Held.Port ^= 1 << bit
		checkDesignated(t, q, own, false)
		q.Id ^= 1 << bit
		checkDesignated(t, q, own, true)
		q.Held.Port = p.Held.Port
		checkDesignated(t, q, own, false)
	}
}

func TestWhatTellsItsLanIsDesignated(t *testing.T) {
	for _, own := range owns() {
		for _, id := range portIds {
			for _, p := range []port.Port{
				port.New(id, 19, true, own),
				port.New(id, 19, false, own),
				port.Become(port.Port{Id: id, State: learning, Held: rank.Vector{Root: 1, Bridge: 99, Port: id + 1}}, own),
			} {
				checkDesignated(t, p, own.Bridge, true)
				checkDesignated(t, p, own.Bridge+1, false)
				checkDesignated(t, p, own.Bridge-1, false)
				checkDesignated(t, p, own.Bridge^1<<63, false)
			}
		}
	}
}

// 12.2: Rise.

func TestRise(t *testing.T) {
	for _, p := range variants(blocking) {
		want := p
		want.State, want.Delay = listening, runs(0)
		checkRise(t, p, want)
		checkRise(t, want, want)
	}
}

func TestRiseOfAnyOtherState(t *testing.T) {
	for _, state := range anyStates() {
		if state == blocking {
			continue
		}
		for _, p := range variants(state) {
			checkRise(t, p, p)
		}
	}
}

// TestRiseDoesNotBeginAgain lets one that is on its way rise while its Delay runs.
func TestRiseDoesNotBeginAgain(t *testing.T) {
	p := port.Rise(port.New(1, 1, true, rank.Vector{}))
	for seconds := range 40 {
		if p.State != listening || p.Delay != runs(256*seconds) {
			t.Fatalf("behind %d seconds: %+v", seconds, p)
		}
		p = port.Rise(p)
		p.Delay = timer.Tick(p.Delay)
	}
}

// 12.2: Block.

func TestBlock(t *testing.T) {
	for _, c := range []struct {
		state int
		lost  bool
	}{{listening, false}, {learning, true}, {forwarding, true}} {
		for _, p := range variants(c.state) {
			want := p
			want.State, want.Delay = blocking, rests
			checkBlock(t, p, want, c.lost)
			checkBlock(t, want, want, false)
		}
	}
}

// TestBlockOfOneThatIsBlocked takes those that stay as they were, even if their Delay runs.
func TestBlockOfOneThatIsBlocked(t *testing.T) {
	for _, state := range []int{disabled, blocking} {
		for _, p := range variants(state) {
			checkBlock(t, p, p, false)
		}
	}
}

func TestBlockOfNoState(t *testing.T) {
	for _, state := range noStates {
		for _, p := range variants(state) {
			want := p
			want.State, want.Delay = blocking, rests
			checkBlock(t, p, want, false)
		}
	}
}

// 12.2: Next.

func TestNext(t *testing.T) {
	for _, p := range variants(listening) {
		want := p
		want.State, want.Delay = learning, runs(0)
		checkNext(t, p, want, false)
	}
	for _, p := range variants(learning) {
		want := p
		want.State = forwarding
		checkNext(t, p, want, true)
	}
}

func TestNextOfAnyOtherState(t *testing.T) {
	for _, state := range anyStates() {
		if state == listening || state == learning {
			continue
		}
		for _, p := range variants(state) {
			checkNext(t, p, p, false)
		}
	}
}

func TestExample(t *testing.T) {
	p, forwards := port.Next(port.Rise(full(blocking)))
	if p.State != learning || forwards {
		t.Errorf("Blocking; Rise, Next: %+v, %t", p, forwards)
	}
	if p, forwards = port.Next(p); p.State != forwarding || !forwards {
		t.Errorf("Blocking; Rise, Next, Next: %+v, %t", p, forwards)
	}
	if p, forwards = port.Next(p); p.State != forwarding || forwards {
		t.Errorf("Next of what forwards: %+v, %t", p, forwards)
	}
}

// 12.3, and that who forwards learns (12.4).

func TestLearnsAndForwards(t *testing.T) {
	for _, c := range []struct {
		state            int
		learns, forwards bool
	}{
		{api.Disabled, false, false},
		{api.Blocking, false, false},
		{api.Listening, false, false},
		{api.Learning, true, false},
		{api.Forwarding, true, true},
	} {
		if got := port.Learns(c.state); got != c.learns {
			t.Errorf("Learns(%d) = %t", c.state, got)
		}
		if got := port.Forwards(c.state); got != c.forwards {
			t.Errorf("Forwards(%d) = %t", c.state, got)
		}
	}
}

func TestLearnsAndForwardsOfNoState(t *testing.T) {
	for _, state := range noStates {
		if port.Learns(state) || port.Forwards(state) {
			t.Errorf("state %d: Learns %t, Forwards %t", state, port.Learns(state), port.Forwards(state))
		}
	}
	for bit := 3; bit < 64; bit++ {
		for low := range 5 {
			if state := low | 1<<bit; port.Learns(state) || port.Forwards(state) {
				t.Errorf("state %d: Learns %t, Forwards %t", state, port.Learns(state), port.Forwards(state))
			}
		}
	}
	for state := -70000; state <= 70000; state++ {
		if got := port.Learns(state); got != (state == 3 || state == 4) {
			t.Fatalf("Learns(%d) = %t", state, got)
		}
		if got := port.Forwards(state); got != (state == 4) {
			t.Fatalf("Forwards(%d) = %t", state, got)
		}
	}
}

func TestWhoForwardsLearns(t *testing.T) {
	for _, state := range anyStates() {
		if port.Forwards(state) && !port.Learns(state) {
			t.Errorf("state %d forwards, and doesn't learn", state)
		}
	}
}

// 12.4: a port forwards only behind two delays.

// calls are what a row of calls is made of.
var calls = []string{"Rise", "Next", "Block", "Become"}

// do makes one call, by its place in calls.
func do(p port.Port, call int) port.Port {
	switch calls[call] {
	case "Rise":
		p = port.Rise(p)
	case "Next":
		p, _ = port.Next(p)
	case "Block":
		p, _ = port.Block(p)
	default:
		p = port.Become(p, rank.Vector{Root: 1, Cost: 2, Bridge: 3})
	}
	return p
}

// passed answers how much of Rise, Next, Next stands behind the last Block
// of a row, in that order.
func passed(row []int) int {
	way := []string{"Rise", "Next", "Next"}
	far := 0
	for _, call := range row {
		if calls[call] == "Block" {
			far = 0
		} else if far < len(way) && calls[call] == way[far] {
			far++
		}
	}
	return far
}

// TestForwardsBehindTwoDelays makes all rows of up to eight calls: a port
// that was on is just as far as the row led it, one that was off stays off.
func TestForwardsBehindTwoDelays(t *testing.T) {
	own := rank.Vector{Root: 1, Cost: 2, Bridge: 3}
	var walk func(on, off port.Port, row []int)
	walk = func(on, off port.Port, row []int) {
		far := passed(row)
		if on.State != blocking+far || port.Learns(on.State) != (far >= 2) || port.Forwards(on.State) != (far == 3) {
			t.Fatalf("behind %v (%v) a port that was on is %+v", row, calls, on)
		}
		if off != port.New(2, 19, false, own) {
			t.Fatalf("behind %v (%v) a port that was off is %+v", row, calls, off)
		}
		if len(row) == 8 {
			return
		}
		for call := range calls {
			walk(do(on, call), do(off, call), append(row, call))
		}
	}
	walk(port.New(1, 19, true, own), port.New(2, 19, false, own), nil)
}

// TestOneThatWasBlockedNeedsBothDelaysAgain blocks a port at each step of its way.
func TestOneThatWasBlockedNeedsBothDelaysAgain(t *testing.T) {
	for far := range 4 {
		p := port.New(1, 19, true, rank.Vector{})
		for _, call := range []int{0, 1, 1}[:far] {
			p = do(p, call)
		}
		p, lost := port.Block(p)
		if p.State != blocking || p.Delay != rests || lost != (far >= 2) {
			t.Fatalf("blocked behind %d steps: %+v, %t", far, p, lost)
		}
		if q, forwards := port.Next(p); q != p || forwards {
			t.Fatalf("Next of what was blocked behind %d steps: %+v, %t", far, q, forwards)
		}
		for step, state := range []int{listening, learning, forwarding} {
			forwards := false
			if step == 0 {
				p = port.Rise(p)
			} else {
				p, forwards = port.Next(p)
			}
			if p.State != state || forwards != (step == 2) || port.Forwards(p.State) != (step == 2) {
				t.Fatalf("blocked behind %d steps, and %d steps later: %+v, %t", far, step+1, p, forwards)
			}
		}
	}
}

// secondsTillItForwards lets seconds go by for a port that rises, and answers
// behind how many it learns, and forwards.
func secondsTillItForwards(t *testing.T, p port.Port, delay int) (learns, forwards int) {
	t.Helper()
	for p, seconds := port.Rise(p), 1; seconds < 1000; seconds++ {
		var fired, now bool
		p.Delay, fired = timer.Fire(p.Delay, delay)
		if fired {
			p, now = port.Next(p)
		}
		if now != port.Forwards(p.State) {
			t.Fatalf("delay %d, %d seconds: %+v, %t", delay, seconds, p, now)
		}
		if learns == 0 && port.Learns(p.State) {
			learns = seconds
		}
		if now {
			if p.Delay != rests {
				t.Fatalf("delay %d: it forwards, and its Delay is %+v", delay, p.Delay)
			}
			return learns, seconds
		}
		p = port.Rise(p)
	}
	return 0, 0
}

func TestForwardsBehindTwiceTheDelay(t *testing.T) {
	for delay := 1; delay <= 30*256+300; delay++ {
		each := (delay + 255) / 256
		p := full(blocking)
		p.Delay = runs(longest)
		if learns, forwards := secondsTillItForwards(t, p, delay); learns != each || forwards != 2*each {
			t.Fatalf("delay %d: it learns behind %d seconds, and forwards behind %d, want %d, %d", delay, learns, forwards, each, 2*each)
		}
	}
}

// 12.1 to 12.4: long rows, drawn at random, always the same ones.

// model is what a port should be, told otherwise: how far it came on its way
// since it was blocked (-1: it is off), and how long its timers have run (-1: they rest).
type model struct {
	id               api.PortId
	cost             uint32
	far              int
	held             rank.Vector
	ack, pending     bool
	age, delay, hold int
}

func (m model) port() port.Port {
	return port.Port{
		Id: m.id, State: m.far + 1, Cost: m.cost, Held: m.held, Ack: m.ack, Pending: m.pending,
		Age: ran(m.age), Delay: ran(m.delay), Hold: ran(m.hold),
	}
}

func ran(value int) api.Timer {
	if value < 0 {
		return rests
	}
	return runs(value)
}

// both are a port and its model, to which the same is done.
type both struct {
	p port.Port
	m model
}

func (b *both) anew(draw *rand.Rand) {
	id, cost, on, own := anyId(draw), draw.Uint32(), draw.IntN(5) > 0, anyVector(draw)
	b.p = port.New(id, cost, on, own)
	b.m = model{id: id, cost: cost, far: -1, held: own, age: -1, delay: -1, hold: -1}
	b.m.held.Port = id
	if on {
		b.m.far = 0
	}
}

func (b *both) become(own rank.Vector) {
	b.p = port.Become(b.p, own)
	b.m.held.Root, b.m.held.Cost, b.m.held.Bridge, b.m.held.Port = own.Root, own.Cost, own.Bridge, b.m.id
}

func (b *both) rise() {
	b.p = port.Rise(b.p)
	if b.m.far == 0 {
		b.m.far, b.m.delay = 1, 0
	}
}

func (b *both) block(t *testing.T) {
	t.Helper()
	had, want := b.p, b.m.far > 1
	if b.m.far > 0 {
		b.m.far, b.m.delay = 0, -1
	}
	var got bool
	if b.p, got = port.Block(b.p); got != want {
		t.Fatalf("Block(%+v) = %+v, %t, want %t", had, b.p, got, want)
	}
}

func (b *both) next(t *testing.T) {
	t.Helper()
	had, want := b.p, false
	switch b.m.far {
	case 1:
		b.m.far, b.m.delay = 2, 0
	case 2:
		b.m.far, want = 3, true
	}
	var got bool
	if b.p, got = port.Next(b.p); got != want {
		t.Fatalf("Next(%+v) = %+v, %t, want %t", had, b.p, got, want)
	}
}

// meanwhile does what the port's bridge does by itself: it holds what it
// heard, owes, lets timers run, rest and go on.
func (b *both) meanwhile(draw *rand.Rand) {
	value := []int{-1, 0, 256 * draw.IntN(60), draw.IntN(longest + 1), longest}[draw.IntN(5)]
	switch draw.IntN(6) {
	case 0:
		b.m.held = anyVector(draw)
		if draw.IntN(2) == 0 {
			b.m.held.Port = b.m.id
		}
		b.p.Held = b.m.held
	case 1:
		b.m.ack = draw.IntN(2) == 0
		b.p.Ack = b.m.ack
	case 2:
		b.m.pending = draw.IntN(2) == 0
		b.p.Pending = b.m.pending
	case 3:
		b.m.age = value
		b.p.Age = ran(value)
	case 4:
		b.m.delay = value
		b.p.Delay = ran(value)
	default:
		b.m.hold = value
		b.p.Hold = ran(value)
	}
}

func (b *both) check(t *testing.T) {
	t.Helper()
	if b.p != b.m.port() {
		t.Fatalf("the port is %+v, want %+v", b.p, b.m.port())
	}
	if port.Learns(b.p.State) != (b.m.far >= 2) || port.Forwards(b.p.State) != (b.m.far == 3) {
		t.Fatalf("%+v: Learns %t, Forwards %t", b.p, port.Learns(b.p.State), port.Forwards(b.p.State))
	}
	for _, own := range append([]api.BridgeId{b.m.held.Bridge, b.m.held.Bridge + 1, b.m.held.Root}, bridges...) {
		want := b.m.held.Bridge == own
		if b.m.held.Port != b.m.id {
			want = false
		}
		checkDesignated(t, b.p, own, want)
	}
}

func anyId(draw *rand.Rand) api.PortId {
	if draw.IntN(2) == 0 {
		return portIds[draw.IntN(len(portIds))]
	}
	return api.PortId(draw.Uint32())
}

func anyVector(draw *rand.Rand) rank.Vector {
	v := rank.Vector{Root: api.BridgeId(draw.Uint64()), Cost: draw.Uint32(), Bridge: api.BridgeId(draw.Uint64()), Port: anyId(draw)}
	if draw.IntN(2) == 0 {
		v.Bridge = bridges[draw.IntN(len(bridges))]
	}
	if draw.IntN(3) == 0 {
		v.Root = v.Bridge
	}
	return v
}

// TestLongRows blocks and begins anew seldom or often, so that ports stand
// at the beginning of their way, and at its end.
func TestLongRows(t *testing.T) {
	for _, rarely := range []int{2, 5, 20, 200} {
		t.Run(fmt.Sprintf("blocked once in %d steps", rarely), func(t *testing.T) {
			draw := rand.New(rand.NewPCG(12, uint64(rarely)))
			b := &both{}
			b.anew(draw)
			seen := make(map[int]int)
			for range 60000 {
				switch {
				case draw.IntN(rarely) == 0:
					b.block(t)
				case draw.IntN(10*rarely) == 0:
					b.anew(draw)
				default:
					b.step(t, draw)
				}
				b.check(t)
				seen[b.p.State]++
			}
			for state := disabled; state <= forwarding; state++ {
				if seen[state] < 100 {
					t.Errorf("state %d was met %d times only", state, seen[state])
				}
			}
		})
	}
}

func (b *both) step(t *testing.T, draw *rand.Rand) {
	t.Helper()
	switch draw.IntN(4) {
	case 0:
		b.rise()
	case 1:
		b.next(t)
	case 2:
		b.become(anyVector(draw))
	default:
		b.meanwhile(draw)
	}
}

// FuzzOfAny hands in any port at all, of whatever State, and reads its
// answers off the chapter.
func FuzzOfAny(f *testing.F) {
	f.Add(1, uint16(0x8001), uint32(19), uint64(5), uint32(6), uint64(7), uint16(8), true, 100, byte(0xff))
	f.Add(4, uint16(1), uint32(0), uint64(5), uint32(6), uint64(5), uint16(1), false, -7, byte(0))
	f.Add(-1, uint16(0), uint32(1), uint64(0), uint32(0), uint64(0), uint16(0), true, longest, byte(0x15))
	f.Fuzz(func(t *testing.T, state int, id uint16, cost uint32, root uint64, far uint32, bridge uint64, number uint16, delays bool, delay int, rest byte) {
		p := port.Port{
			Id: api.PortId(id), State: state, Cost: cost,
			Held: rank.Vector{Root: api.BridgeId(root), Cost: far, Bridge: api.BridgeId(bridge), Port: api.PortId(number)},
			Ack:  rest&1 != 0, Pending: rest&2 != 0,
			Age:   api.Timer{On: rest&4 != 0, Value: int(rest)},
			Delay: api.Timer{On: delays, Value: delay},
			Hold:  api.Timer{On: rest&8 != 0, Value: -int(rest)},
		}
		up, down, on := p, p, p
		if state == 1 {
			up.State, up.Delay = 2, runs(0)
		}
		if state != 0 && state != 1 {
			down.State, down.Delay = 1, rests
		}
		if state == 2 {
			on.State, on.Delay = 3, runs(0)
		}
		if state == 3 {
			on.State = 4
		}
		checkRise(t, p, up)
		checkBlock(t, p, down, state == 3 || state == 4)
		checkNext(t, p, on, state == 3)
		checkBecome(t, p, rank.Vector{Root: p.Held.Bridge, Cost: cost, Bridge: p.Held.Root, Port: p.Id + 1})
		checkNew(t, p.Id, cost, delays, p.Held)
		checkDesignated(t, p, p.Held.Bridge, id == number)
		checkDesignated(t, p, p.Held.Root, id == number && root == bridge)
	})
}
