package timer_test

import (
	"fmt"
	"math"
	"math/rand/v2"
	"testing"

	"treeline/api"
	"treeline/timer"
)

// longest is the Value that none grows beyond, written out apart from the package's.
const longest = 1073741824

// limits are what Over and Fire may be handed, whatever the timer is.
var limits = []int{
	math.MinInt, math.MinInt + 1, math.MinInt + 256, math.MinInt32, -257, -256, -255, -2, -1,
	0, 1, 2, 255, 256, 257, 511, 512, 513, 5120, 65535, 65536,
	longest - 257, longest - 256, longest - 255, longest - 1, longest, longest + 1, longest + 255, longest + 256, longest + 257,
	math.MaxInt32, math.MaxInt - 256, math.MaxInt - 1, math.MaxInt,
}

// values are how long a timer may have run.
var values = []int{
	0, 1, 2, 100, 254, 255, 256, 257, 258, 511, 512, 513, 1024, 5120, 65535, 65536, 1 << 24, 1<<29 + 3,
	longest - 513, longest - 512, longest - 511, longest - 258, longest - 257, longest - 256, longest - 255, longest - 254,
	longest - 2, longest - 1, longest,
}

// runs answers a timer that has run that long, made without the package.
func runs(value int) timer.Timer {
	return timer.Timer{On: true, Value: value}
}

// rests is a timer that rests, made without the package.
var rests = timer.Timer{}

// checkTick ticks a timer, and looks at what was handed in as well.
func checkTick(t *testing.T, in, want timer.Timer) {
	t.Helper()
	had := in
	if got := timer.Tick(in); got != want {
		t.Errorf("Tick(%v) = %v, want %v", in, got, want)
	}
	if in != had {
		t.Errorf("Tick changes %v to %v", had, in)
	}
}

func checkOver(t *testing.T, in timer.Timer, limit int, want bool) {
	t.Helper()
	had := in
	if got := timer.Over(in, limit); got != want {
		t.Errorf("Over(%v, %d) = %t, want %t", in, limit, got, want)
	}
	if in != had {
		t.Errorf("Over changes %v to %v", had, in)
	}
}

func checkFire(t *testing.T, in timer.Timer, limit int, want timer.Timer, fires bool) {
	t.Helper()
	had := in
	if got, fired := timer.Fire(in, limit); got != want || fired != fires {
		t.Errorf("Fire(%v, %d) = %v, %t, want %v, %t", in, limit, got, fired, want, fires)
	}
	if in != had {
		t.Errorf("Fire changes %v to %v", had, in)
	}
}

// 9.1: Start and Stop.

func TestStart(t *testing.T) {
	for _, c := range []struct{ value, want int }{
		{math.MinInt, 0}, {math.MinInt + 1, 0}, {math.MinInt32, 0}, {-1073741825, 0}, {-1073741824, 0}, {-256, 0}, {-2, 0}, {-1, 0},
		{0, 0}, {1, 1}, {2, 2}, {255, 255}, {256, 256}, {257, 257}, {5120, 5120}, {65535, 65535}, {65536, 65536},
		{longest - 2, longest - 2}, {longest - 1, longest - 1}, {longest, longest}, {longest + 1, longest}, {longest + 2, longest},
		{longest + 256, longest}, {math.MaxInt32, longest}, {math.MaxInt32 + 1, longest}, {1 << 32, longest}, {1<<32 + 5, longest},
		{math.MaxInt - 256, longest}, {math.MaxInt - 1, longest}, {math.MaxInt, longest},
	} {
		if got := timer.Start(c.value); got != runs(c.want) {
			t.Errorf("Start(%d) = %v, want %v", c.value, got, runs(c.want))
		}
	}
}

func TestStartTellsEachValue(t *testing.T) {
	for _, from := range []int{0, 65000, 1 << 20, longest - 2000} {
		for value := from; value <= from+2000; value++ {
			if got := timer.Start(value); got != runs(value) {
				t.Fatalf("Start(%d) = %v", value, got)
			}
		}
	}
}

func TestStop(t *testing.T) {
	if got := timer.Stop(); got != rests {
		t.Errorf("Stop() = %v", got)
	}
	timer.Tick(timer.Start(5))
	timer.Fire(timer.Start(5), 0)
	if got := timer.Stop(); got != rests {
		t.Errorf("Stop() = %v behind other calls", got)
	}
}

// TestTimersAreApart hands one timer to calls, and looks at others that were handed out.
func TestTimersAreApart(t *testing.T) {
	one, other := timer.Start(7), timer.Start(7)
	later := timer.Tick(one)
	timer.Fire(other, 0)
	if one != runs(7) || other != runs(7) || later != runs(263) {
		t.Errorf("the timers are %v, %v, %v", one, other, later)
	}
}

// 9.2: Tick.

func TestTick(t *testing.T) {
	for _, c := range []struct{ value, want int }{
		{0, 256}, {1, 257}, {100, 356}, {255, 511}, {256, 512}, {257, 513}, {5120, 5376}, {65535, 65791},
		{longest - 513, longest - 257}, {longest - 512, longest - 256}, {longest - 258, longest - 2},
		{longest - 257, longest - 1}, {longest - 256, longest}, {longest - 255, longest}, {longest - 254, longest},
		{longest - 2, longest}, {longest - 1, longest}, {longest, longest},
	} {
		checkTick(t, runs(c.value), runs(c.want))
		checkTick(t, timer.Start(c.value), timer.Start(c.want))
	}
}

func TestTickOfOneThatRests(t *testing.T) {
	checkTick(t, rests, rests)
	checkTick(t, timer.Stop(), rests)
	x := timer.Stop()
	for range 1000 {
		x = timer.Tick(x)
	}
	if x != rests {
		t.Errorf("behind 1000 ticks one that rests is %v", x)
	}
}

// TestTickGoesOn ticks one timer from 0 on till it stays.
func TestTickGoesOn(t *testing.T) {
	x := timer.Start(0)
	for ticks := 1; ticks <= longest/api.Second; ticks++ {
		x = timer.Tick(x)
		if x != runs(256*ticks) {
			t.Fatalf("tick %d: %v, want %v", ticks, x, runs(256*ticks))
		}
	}
	for range 10 {
		checkTick(t, x, runs(longest))
		x = timer.Tick(x)
	}
}

// 9.2: Over.

// TestOverAboutTheValue asks with the Value as limit, and with what lies about it.
func TestOverAboutTheValue(t *testing.T) {
	for _, value := range values {
		for by, want := range map[int]bool{-257: true, -256: true, -2: true, -1: true, 0: true, 1: false, 2: false, 256: false, 257: false} {
			checkOver(t, runs(value), value+by, want)
			checkOver(t, timer.Start(value), value+by, want)
		}
	}
}

func TestOverAtEachLimit(t *testing.T) {
	for _, value := range values {
		for _, limit := range limits {
			checkOver(t, runs(value), limit, limit <= value)
		}
		checkOver(t, runs(value), -value, true)
		checkOver(t, runs(value), -value-1, true)
	}
}

func TestOverOfOneThatRests(t *testing.T) {
	for _, limit := range limits {
		checkOver(t, rests, limit, false)
		checkOver(t, timer.Stop(), limit, false)
	}
}

// 9.2: Fire.

func TestExample(t *testing.T) {
	x, fired := timer.Fire(timer.Start(0), 512)
	if x != runs(256) || fired {
		t.Errorf("Fire of Start(0) by 512 = %v, %t", x, fired)
	}
	if x, fired = timer.Fire(x, 512); x != rests || !fired {
		t.Errorf("Fire of that again = %v, %t", x, fired)
	}
	if x, fired = timer.Fire(x, 512); x != rests || fired {
		t.Errorf("Fire of what rests = %v, %t", x, fired)
	}
}

func TestFireOfOneThatRests(t *testing.T) {
	for _, limit := range limits {
		checkFire(t, rests, limit, rests, false)
		checkFire(t, timer.Stop(), limit, rests, false)
	}
}

// TestFireAboutTheLimit lets the Tick come just to the limit, short of it and beyond it.
func TestFireAboutTheLimit(t *testing.T) {
	for _, limit := range []int{0, 1, 255, 256, 257, 258, 512, 513, 5120, 65535, 65536, 1 << 24, longest - 257, longest - 256, longest - 255, longest - 1} {
		for by := -600; by <= 600; by++ {
			value := limit - 256 + by
			if value < 0 || value > longest {
				continue
			}
			if by >= 0 {
				checkFire(t, runs(value), limit, rests, true)
			} else {
				checkFire(t, runs(value), limit, runs(limit+by), false)
			}
		}
	}
}

// TestFireAtTheLongest fires timers whose Tick is 2^30, and no more.
func TestFireAtTheLongest(t *testing.T) {
	for _, value := range []int{longest - 256, longest - 255, longest - 1, longest} {
		for _, limit := range []int{math.MinInt, -1, 0, longest - 256, longest - 1, longest} {
			checkFire(t, runs(value), limit, rests, true)
		}
		for _, limit := range []int{longest + 1, longest + 2, longest + 255, longest + 256, longest + 257, math.MaxInt32, math.MaxInt - 256, math.MaxInt} {
			checkFire(t, runs(value), limit, runs(longest), false)
		}
	}
	checkFire(t, runs(longest-257), longest, runs(longest-1), false)
	checkFire(t, runs(longest-257), longest-1, rests, true)
}

func TestFireAtEachLimit(t *testing.T) {
	for _, value := range values {
		later := min(value+256, longest)
		for _, limit := range limits {
			if later >= limit {
				checkFire(t, runs(value), limit, rests, true)
			} else {
				checkFire(t, runs(value), limit, runs(later), false)
			}
		}
	}
}

// TestOneThatRestsStaysAsItWas hands in what no call answers: it rests, and
// has a Value all the same.
func TestOneThatRestsStaysAsItWas(t *testing.T) {
	for _, value := range values {
		x := timer.Timer{Value: value}
		checkTick(t, x, x)
		for _, limit := range limits {
			checkOver(t, x, limit, false)
			checkFire(t, x, limit, x, false)
		}
	}
}

// 9.3: how many ticks a timer takes that was started anew at 0.

// ticksTillItFires starts a timer anew at 0, and fires it till it does, or
// till so many ticks are over: then it is 0.
func ticksTillItFires(t *testing.T, limit, most int) int {
	t.Helper()
	x := timer.Start(0)
	for ticks := 1; ticks <= most; ticks++ {
		later, fired := timer.Fire(x, limit)
		if fired {
			if later != rests {
				t.Errorf("limit %d: it fires, and is %v", limit, later)
			}
			return ticks
		}
		if later != runs(min(256*ticks, longest)) {
			t.Fatalf("limit %d, tick %d: it is %v", limit, ticks, later)
		}
		x = later
	}
	return 0
}

func checkTicks(t *testing.T, limit, want int) {
	t.Helper()
	if got := ticksTillItFires(t, limit, want+3); got != want {
		t.Errorf("limit %d: it fires behind %d ticks, want %d", limit, got, want)
	}
}

// TestFiresBehindBegunSeconds takes some seconds, one less and one more.
func TestFiresBehindBegunSeconds(t *testing.T) {
	for seconds := 1; seconds <= 1000; seconds++ {
		checkTicks(t, 256*seconds-1, seconds)
		checkTicks(t, 256*seconds, seconds)
		checkTicks(t, 256*seconds+1, seconds+1)
	}
}

func TestFiresBehindBegunSecondsOfEachLimit(t *testing.T) {
	for limit := range 10000 {
		begun := limit / 256
		if limit%256 != 0 {
			begun++
		}
		checkTicks(t, limit, max(begun, 1))
	}
}

func TestFiresBehindOneTickAtLeast(t *testing.T) {
	for _, limit := range []int{math.MinInt, math.MinInt + 1, math.MinInt32, -65536, -512, -257, -256, -255, -1, 0, 1, 2, 254, 255, 256} {
		checkTicks(t, limit, 1)
	}
}

func TestFiresAtTheGreatestLimits(t *testing.T) {
	const most = longest / api.Second
	checkTicks(t, longest-257, most-1)
	checkTicks(t, longest-256, most-1)
	checkTicks(t, longest-255, most)
	checkTicks(t, longest-1, most)
	checkTicks(t, longest, most)
}

// TestNeverFiresBeyondTheLongest ticks on behind 2^30: it runs, and stays there.
func TestNeverFiresBeyondTheLongest(t *testing.T) {
	const most = longest / api.Second
	for _, limit := range []int{longest + 1, longest + 256, math.MaxInt} {
		if got := ticksTillItFires(t, limit, most+300); got != 0 {
			t.Errorf("limit %d: it fires behind %d ticks", limit, got)
		}
	}
}

// TestFiresAnew starts a timer anew each time that it ran out.
func TestFiresAnew(t *testing.T) {
	for _, limit := range []int{-5, 0, 256, 300, 512, 3840} {
		want := max((limit+255)/256, 1)
		x, fires := timer.Start(0), 0
		for range 20 * want {
			var fired bool
			if x, fired = timer.Fire(x, limit); fired {
				fires++
				x = timer.Start(0)
			}
		}
		if fires != 20 || x != runs(0) {
			t.Errorf("limit %d: in %d ticks it fires %d times, and is %v", limit, 20*want, fires, x)
		}
	}
}

// 9.1 to 9.3: long rows, drawn at random, always the same ones.

// model is what a timer should be: where it was started, and how many ticks
// are over since then, -1 if it rests.
type model struct {
	from, ticks int
}

// value answers how long it has run. The ticks are cut, as 2^30 is reached by fewer.
func (m model) value() int {
	return min(m.from+256*min(m.ticks, longest), longest)
}

func (m model) timer() timer.Timer {
	if m.ticks < 0 {
		return rests
	}
	return runs(m.value())
}

// both are a timer and its model, to which the same is done.
type both struct {
	x timer.Timer
	m model
}

func (b *both) start(value int) {
	b.x = timer.Start(value)
	b.m = model{from: min(max(value, 0), longest)}
}

func (b *both) stop() {
	b.x = timer.Stop()
	b.m = model{ticks: -1}
}

func (b *both) tick() {
	b.x = timer.Tick(b.x)
	if b.m.ticks >= 0 {
		b.m.ticks++
	}
}

func (b *both) fire(t *testing.T, limit int) {
	t.Helper()
	had, fired := b.x, false
	if b.m.ticks >= 0 {
		b.m.ticks++
		if fired = b.m.value() >= limit; fired {
			b.m = model{ticks: -1}
		}
	}
	var got bool
	if b.x, got = timer.Fire(b.x, limit); got != fired {
		t.Fatalf("Fire(%v, %d) = %v, %t, want %t", had, limit, b.x, got, fired)
	}
}

func (b *both) check(t *testing.T) {
	t.Helper()
	if b.x != b.m.timer() {
		t.Fatalf("the timer is %v, want %v", b.x, b.m.timer())
	}
	for _, limit := range []int{b.x.Value - 1, b.x.Value, b.x.Value + 1, 0, -1, 5000, longest, math.MinInt, math.MaxInt} {
		checkOver(t, b.x, limit, b.m.ticks >= 0 && b.m.value() >= limit)
	}
}

func TestLongRows(t *testing.T) {
	for _, rarely := range []int{2, 10, 100} {
		for _, reach := range []int{300, 5120, 70000, longest} {
			t.Run(fmt.Sprintf("started once in %d steps, of up to %d", rarely, reach), func(t *testing.T) {
				longRow(t, rarely, reach, rand.New(rand.NewPCG(uint64(rarely), uint64(reach))))
			})
		}
	}
}

// longRow ticks and fires mostly; once in some steps it starts anew or stops.
func longRow(t *testing.T, rarely, reach int, draw *rand.Rand) {
	b := &both{m: model{ticks: -1}}
	for range 5000 {
		switch {
		case draw.IntN(rarely) == 0:
			b.start([]int{0, 0, draw.IntN(reach), reach - draw.IntN(600), longest - draw.IntN(2000), -draw.IntN(1000)}[draw.IntN(6)])
		case draw.IntN(4*rarely) == 0:
			b.stop()
		case draw.IntN(3) == 0:
			b.tick()
		case draw.IntN(30) == 0:
			b.fire(t, limits[draw.IntN(len(limits))])
		default:
			b.fire(t, draw.IntN(reach)+draw.IntN(800))
		}
		b.check(t)
	}
}

// FuzzTimer reads steps: of each two bytes what is done, and with which number.
func FuzzTimer(f *testing.F) {
	f.Add([]byte{0, 0, 3, 5, 3, 5, 2, 0, 3, 1})
	f.Add([]byte{1, 3, 2, 0, 4, 1, 5, 0, 0, 200, 4, 0})
	f.Fuzz(func(t *testing.T, in []byte) {
		b := &both{m: model{ticks: -1}}
		for i := 0; i+1 < len(in); i += 2 {
			number := int(in[i+1])
			switch in[i] % 6 {
			case 0:
				b.start(64 * (number - 8))
			case 1:
				b.start(longest - 64*(number-8))
			case 2:
				b.tick()
			case 3:
				b.fire(t, 64*(number-8))
			case 4:
				b.fire(t, longest-64*(number-8))
			default:
				b.stop()
			}
			b.check(t)
		}
	})
}
