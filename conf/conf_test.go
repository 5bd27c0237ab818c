package conf_test

import (
	"math"
	"math/rand/v2"
	"slices"
	"testing"

	"treeline/api"
	"treeline/conf"
	"treeline/ids"
)

// good answers a configuration that may be, in new memory.
func good() api.Conf {
	return api.Conf{
		Addr: 0x020304050607, Prio: 0x8000, MaxAge: 20, Hello: 2, Delay: 15, Ageing: 300, Table: 8,
		Ports: []api.PortConf{{Prio: 128, Cost: 19, On: true}, {Prio: 1, Cost: 100}},
	}
}

// mostInts are numbers that may be none of a configuration, and that a
// product, a sum, or a cut to fewer bits would bring back among those that may.
var mostInts = []int{
	math.MinInt, math.MinInt + 1, math.MinInt + 2, math.MinInt + 20, -1 << 62, -1<<62 + 11, -1<<62 - 11, -1<<32 + 20, -1 << 32, -1 << 31, -65536 + 20, -256 + 20, -20, -2, -1,
	256 + 1100000, 1<<16 + 1000000, 1<<24 + 20, 1<<31 - 1, 1 << 31, 1<<32 + 1, 1<<32 + 5, 1<<32 + 20, 1<<62 - 1, 1 << 62, 1<<62 + 5, 1<<62 + 20, 1<<62 + 1<<61 + 9, math.MaxInt - 1, math.MaxInt,
}

// plainTimes is what Times should answer, of numbers that are told one by one.
func plainTimes(maxAge, hello, delay int) bool {
	if maxAge < 6 || maxAge > 40 {
		return false
	}
	if hello < 1 || hello > 10 {
		return false
	}
	if delay < 4 || delay > 30 {
		return false
	}
	if maxAge > 2*(delay-1) {
		return false
	}
	return maxAge >= 2*(hello+1)
}

func plainPort(p api.PortConf) bool {
	return p.Cost != 0 && p.Cost < 65536
}

// plainCheck is what Check should answer: fault by fault, in the document's order.
func plainCheck(c api.Conf) api.Errno {
	if c.Addr == 0 || c.Addr >= 1<<48 || c.Addr&(1<<40) != 0 {
		return api.ErrArg
	}
	if !plainTimes(c.MaxAge, c.Hello, c.Delay) {
		return api.ErrForm
	}
	if c.Ageing < 10 || c.Ageing > 1000000 {
		return api.ErrForm
	}
	if c.Table < 0 || c.Table > 64 {
		return api.ErrForm
	}
	if len(c.Ports) == 0 {
		return api.ErrNone
	}
	if len(c.Ports) > 4 {
		return api.ErrLong
	}
	for _, p := range c.Ports {
		if !plainPort(p) {
			return api.ErrForm
		}
	}
	return api.OK
}

// same tells whether two configurations are alike, their ports' order too.
func same(a, b api.Conf) bool {
	return a.Addr == b.Addr && a.Prio == b.Prio && a.MaxAge == b.MaxAge && a.Hello == b.Hello &&
		a.Delay == b.Delay && a.Ageing == b.Ageing && a.Table == b.Table && slices.Equal(a.Ports, b.Ports)
}

// keep answers a list of the same ports, spare room included, in new memory.
func keep(ports []api.PortConf) []api.PortConf {
	return slices.Clone(ports[:cap(ports)])
}

// checkUnchanged holds a configuration against what it was ahead of a call, spare room included.
func checkUnchanged(t *testing.T, call string, c, had api.Conf, room []api.PortConf) {
	t.Helper()
	if !same(c, had) || !slices.Equal(c.Ports[:cap(c.Ports)], room) {
		t.Fatalf("%s changes %+v to %+v, with %v behind", call, had, c, c.Ports[:cap(c.Ports)])
	}
}

func checkTimes(t *testing.T, maxAge, hello, delay int, want bool) {
	t.Helper()
	c := good()
	c.MaxAge, c.Hello, c.Delay = maxAge, hello, delay
	had, room := c, keep(c.Ports)
	if got := conf.Times(c); got != want {
		t.Fatalf("Times of MaxAge %d, Hello %d, Delay %d = %t, want %t", maxAge, hello, delay, got, want)
	}
	checkUnchanged(t, "Times", c, had, room)
	e := api.ErrForm
	if want {
		e = api.OK
	}
	checkCheck(t, c, e)
	// The times stand for themselves, whatever else is wrong.
	if got := conf.Times(api.Conf{MaxAge: maxAge, Hello: hello, Delay: delay}); got != want {
		t.Fatalf("Times of MaxAge %d, Hello %d, Delay %d alone = %t, want %t", maxAge, hello, delay, got, want)
	}
}

func checkPort(t *testing.T, p api.PortConf, want bool) {
	t.Helper()
	if got := conf.Port(p); got != want {
		t.Fatalf("Port(%+v) = %t, want %t", p, got, want)
	}
}

func checkCheck(t *testing.T, c api.Conf, want api.Errno) {
	t.Helper()
	had, room := c, keep(c.Ports)
	had.Ports = slices.Clone(c.Ports)
	if got := conf.Check(c); got != want {
		t.Fatalf("Check(%+v) = %d, want %d", c, got, want)
	}
	checkUnchanged(t, "Check", c, had, room)
}

func checkId(t *testing.T, c api.Conf, want api.BridgeId) {
	t.Helper()
	had, room := c, keep(c.Ports)
	had.Ports = slices.Clone(c.Ports)
	if got := conf.Id(c); got != want {
		t.Fatalf("Id(%+v) = %#x, want %#x", c, got, want)
	}
	checkUnchanged(t, "Id", c, had, room)
}

func checkPortId(t *testing.T, c api.Conf, i int, want api.PortId) {
	t.Helper()
	had, room := c, keep(c.Ports)
	had.Ports = slices.Clone(c.Ports)
	if got := conf.PortId(c, i); got != want {
		t.Fatalf("PortId(%+v, %d) = %#x, want %#x", c, i, got, want)
	}
	checkUnchanged(t, "PortId", c, had, room)
}

// checkCopy copies a configuration, and changes what each of the two has, to
// see that neither is seen through the other, spare room included.
func checkCopy(t *testing.T, c api.Conf) {
	t.Helper()
	had, room := c, keep(c.Ports)
	had.Ports = slices.Clone(c.Ports)
	d := conf.Copy(c)
	checkUnchanged(t, "Copy", c, had, room)
	if !same(d, had) {
		t.Fatalf("Copy(%+v) = %+v", had, d)
	}
	scribble(d.Ports)
	d.Addr, d.Prio, d.MaxAge, d.Table = 1, 2, 3, 4
	checkUnchanged(t, "writing to a copy", c, had, room)

	e := conf.Copy(c)
	f := conf.Copy(c)
	scribble(e.Ports)
	if !same(f, had) {
		t.Fatalf("two copies of %+v share memory: %+v", had, f)
	}
	scribble(c.Ports)
	if !same(f, had) {
		t.Fatalf("a copy of %+v shares its memory: %+v", had, f)
	}
	copy(c.Ports[:cap(c.Ports)], room)
}

// scribble writes over all of a list, spare room included.
func scribble(ports []api.PortConf) {
	ports = ports[:cap(ports)]
	for i := range ports {
		ports[i] = api.PortConf{Prio: ports[i].Prio ^ 0xFF, Cost: ports[i].Cost ^ 0xFFFFFFFF, On: !ports[i].On}
	}
}

// 11.1: Times.

// TestTimesOfTheExamples are those of the chapter and of the document.
func TestTimesOfTheExamples(t *testing.T) {
	checkTimes(t, 20, 2, 15, true)
	checkTimes(t, 20, 2, 10, false)
	checkTimes(t, 8, 1, 5, true)
}

// TestTimesEachByItself goes over the ends of each time, where the others let it.
func TestTimesEachByItself(t *testing.T) {
	for _, c := range []struct {
		maxAge, hello, delay int
		want                 bool
	}{
		{5, 1, 30, false}, {6, 1, 30, true}, {7, 1, 30, true},
		{39, 1, 30, true}, {40, 1, 30, true}, {41, 1, 30, false},
		{0, 1, 30, false}, {-6, 1, 30, false}, {-40, 1, 30, false},
		{40, 0, 30, false}, {40, 1, 30, true}, {40, 9, 30, true}, {40, 10, 30, true}, {40, 11, 30, false},
		{40, -1, 30, false}, {40, -10, 30, false}, {6, 0, 30, false}, {6, -1, 4, false},
		{6, 1, 3, false}, {6, 1, 4, true}, {6, 1, 5, true}, {6, 1, 29, true}, {6, 1, 30, true}, {6, 1, 31, false},
		{6, 1, 0, false}, {6, 1, -4, false}, {6, 1, -30, false}, {40, 1, 31, false},
		{0, 0, 0, false}, {6, 2, 4, true}, {40, 10, 21, true}, {5, 1, 4, false}, {41, 10, 30, false},
	} {
		checkTimes(t, c.maxAge, c.hello, c.delay, c.want)
	}
}

// TestTimesAgainstTheDelay lets MaxAge be just twice Delay less 1, and one more.
func TestTimesAgainstTheDelay(t *testing.T) {
	for delay := 4; delay <= 21; delay++ {
		most := 2 * (delay - 1)
		checkTimes(t, most, 1, delay, true)
		checkTimes(t, most-1, 1, delay, most-1 >= 6)
		checkTimes(t, most+1, 1, delay, false)
		checkTimes(t, most+2, 1, delay, false)
	}
}

// TestTimesAgainstTheHello lets MaxAge be just twice Hello and 1, and one less.
func TestTimesAgainstTheHello(t *testing.T) {
	for hello := 2; hello <= 10; hello++ {
		least := 2 * (hello + 1)
		checkTimes(t, least, hello, 30, true)
		checkTimes(t, least+1, hello, 30, true)
		checkTimes(t, least-1, hello, 30, false)
		checkTimes(t, least-2, hello, 30, false)
	}
	// Twice the least Hello and 1 is 4, but a MaxAge is 6 at least.
	checkTimes(t, 4, 1, 30, false)
	checkTimes(t, 5, 1, 30, false)
}

func TestTimesAgainstBoth(t *testing.T) {
	for hello := 2; hello <= 10; hello++ {
		only := 2 * (hello + 1)
		checkTimes(t, only, hello, hello+2, true)
		checkTimes(t, only-1, hello, hello+2, false)
		checkTimes(t, only+1, hello, hello+2, false)
		for maxAge := 6; maxAge <= 40; maxAge++ {
			checkTimes(t, maxAge, hello, hello+1, false)
		}
	}
}

// TestTimesOfAll goes over all about those that may be.
func TestTimesOfAll(t *testing.T) {
	for maxAge := -3; maxAge <= 84; maxAge++ {
		for hello := -3; hello <= 43; hello++ {
			for delay := -3; delay <= 43; delay++ {
				if got, want := conf.Times(api.Conf{MaxAge: maxAge, Hello: hello, Delay: delay}), plainTimes(maxAge, hello, delay); got != want {
					t.Fatalf("Times of MaxAge %d, Hello %d, Delay %d = %t, want %t", maxAge, hello, delay, got, want)
				}
			}
		}
	}
}

// TestTimesOfTheGreatest hands in numbers with which a sum or a product would wrap round.
func TestTimesOfTheGreatest(t *testing.T) {
	some := append([]int{1, 2, 4, 6, 10, 20, 30, 40}, mostInts...)
	for _, most := range mostInts {
		checkTimes(t, most, 2, 15, false)
		checkTimes(t, 20, most, 15, false)
		checkTimes(t, 20, 2, most, false)
		for _, other := range some {
			checkTimes(t, most, other, 15, false)
			checkTimes(t, other, most, 15, false)
			checkTimes(t, most, 2, other, false)
			checkTimes(t, other, 2, most, false)
			checkTimes(t, 20, most, other, false)
			checkTimes(t, 20, other, most, false)
			checkTimes(t, most, other, most, false)
		}
	}
}

// 11.1: Port.

func TestPort(t *testing.T) {
	for _, c := range []struct {
		cost uint32
		want bool
	}{
		{0, false}, {1, true}, {2, true}, {19, true}, {100, true}, {255, true}, {256, true}, {32767, true}, {32768, true}, {65534, true}, {65535, true},
		{65536, false}, {65537, false}, {65555, false}, {131072, false}, {1 << 24, false}, {1<<31 - 1, false}, {1 << 31, false}, {1<<31 + 19, false}, {math.MaxUint32 - 1, false}, {math.MaxUint32, false},
	} {
		for _, prio := range []uint8{0, 1, 127, 128, 255} {
			checkPort(t, api.PortConf{Prio: prio, Cost: c.cost}, c.want)
			checkPort(t, api.PortConf{Prio: prio, Cost: c.cost, On: true}, c.want)
		}
	}
	checkPort(t, api.PortConf{}, false)
}

// TestPortOfAll goes over all costs that may be, and those about them.
func TestPortOfAll(t *testing.T) {
	for cost := range uint32(1 << 18) {
		checkPort(t, api.PortConf{Cost: cost}, cost >= 1 && cost <= 65535)
	}
}

// 11.1: Check.

func TestCheckOfThoseThatMayBe(t *testing.T) {
	checkCheck(t, good(), api.OK)
	least := api.Conf{Addr: 1, MaxAge: 6, Hello: 1, Delay: 4, Ageing: 10, Ports: []api.PortConf{{Cost: 1}}}
	checkCheck(t, least, api.OK)
	most := api.Conf{Addr: 0xFEFFFFFFFFFF, Prio: 65535, MaxAge: 40, Hello: 10, Delay: 30, Ageing: 1000000, Table: 64}
	for range 4 {
		most.Ports = append(most.Ports, api.PortConf{Prio: 255, Cost: 65535, On: true})
	}
	checkCheck(t, most, api.OK)
	checkCheck(t, api.Conf{}, api.ErrArg)
}

func TestCheckOfTheAddr(t *testing.T) {
	for _, c := range []struct {
		addr api.Addr
		want api.Errno
	}{
		{0, api.ErrArg}, {1, api.OK}, {7, api.OK}, {1<<40 - 1, api.OK},
		{1 << 40, api.ErrArg}, {1<<40 + 1, api.ErrArg}, {1<<41 - 1, api.ErrArg}, {1 << 41, api.OK}, {3 << 40, api.ErrArg}, {1 << 42, api.OK},
		{api.Reserved, api.ErrArg}, {api.Reserved + 15, api.ErrArg}, {0x0080C2000000, api.OK},
		{1<<47 - 1, api.ErrArg}, {1 << 47, api.OK}, {0xFEFFFFFFFFFF, api.OK},
		{1<<48 - 1, api.ErrArg}, {api.Broadcast, api.ErrArg},
		{1 << 48, api.ErrArg}, {1<<48 + 1, api.ErrArg}, {1<<48 + 7, api.ErrArg}, {1<<49 + 7, api.ErrArg}, {1<<63 + 7, api.ErrArg}, {math.MaxUint64 - 1<<40, api.ErrArg}, {math.MaxUint64, api.ErrArg},
	} {
		for _, prio := range []uint16{0, 1, 0x8000, 65535} {
			d := good()
			d.Addr, d.Prio = c.addr, prio
			checkCheck(t, d, c.want)
		}
	}
}

func TestCheckOfTheAgeing(t *testing.T) {
	for _, c := range []struct {
		ageing int
		want   api.Errno
	}{
		{-300, api.ErrForm}, {-10, api.ErrForm}, {-1, api.ErrForm}, {0, api.ErrForm}, {1, api.ErrForm}, {8, api.ErrForm}, {9, api.ErrForm},
		{10, api.OK}, {11, api.OK}, {300, api.OK}, {65535, api.OK}, {65536, api.OK}, {999999, api.OK}, {1000000, api.OK},
		{1000001, api.ErrForm}, {1000002, api.ErrForm}, {10000000, api.ErrForm}, {1<<32 + 300, api.ErrForm},
	} {
		d := good()
		d.Ageing = c.ageing
		checkCheck(t, d, c.want)
	}
	for _, most := range mostInts {
		d := good()
		d.Ageing = most
		checkCheck(t, d, api.ErrForm)
	}
}

func TestCheckOfTheTable(t *testing.T) {
	for table := -70; table <= 300; table++ {
		d := good()
		d.Table = table
		want := api.ErrForm
		if table >= 0 && table <= 64 {
			want = api.OK
		}
		checkCheck(t, d, want)
	}
	for _, most := range mostInts {
		d := good()
		d.Table = most
		checkCheck(t, d, api.ErrForm)
	}
}

func TestCheckOfHowManyPorts(t *testing.T) {
	d := good()
	d.Ports = nil
	checkCheck(t, d, api.ErrNone)
	d.Ports = []api.PortConf{}
	checkCheck(t, d, api.ErrNone)
	d.Ports = good().Ports[:0]
	checkCheck(t, d, api.ErrNone)
	d.Ports = nil
	for many := 1; many <= 300; many++ {
		d.Ports = append(d.Ports, api.PortConf{Cost: 19})
		want := api.OK
		if many > 4 {
			want = api.ErrLong
		}
		checkCheck(t, d, want)
	}
}

// TestCheckOfEachPort lets just one port be one that may not be: each in turn.
func TestCheckOfEachPort(t *testing.T) {
	for many := 1; many <= 4; many++ {
		for wrong := range many {
			for _, cost := range []uint32{0, 65536, 1<<31 + 19, math.MaxUint32} {
				d := good()
				d.Ports = nil
				for range many {
					d.Ports = append(d.Ports, api.PortConf{Prio: 128, Cost: 19, On: true})
				}
				checkCheck(t, d, api.OK)
				d.Ports[wrong].Cost = cost
				checkCheck(t, d, api.ErrForm)
			}
		}
	}
}

// TestCheckLooksNoFurther has wrong ports in the spare room, where there are none.
func TestCheckLooksNoFurther(t *testing.T) {
	d := good()
	d.Ports = append(make([]api.PortConf, 0, 8), d.Ports...)
	checkCheck(t, d, api.OK)
	d.Ports = d.Ports[:1]
	d.Ports[:2][1].Cost = 0
	checkCheck(t, d, api.OK)
}

// The faults, each of which tells what it does to a configuration, in the
// order in which they are told.
func faults() []struct {
	err api.Errno
	do  func(*api.Conf)
} {
	return []struct {
		err api.Errno
		do  func(*api.Conf)
	}{
		{api.ErrArg, func(c *api.Conf) { c.Addr = 1 << 48 }},
		{api.ErrForm, func(c *api.Conf) { c.MaxAge = 41 }},
		{api.ErrForm, func(c *api.Conf) { c.Hello = 0 }},
		{api.ErrForm, func(c *api.Conf) { c.Delay = 3 }},
		{api.ErrForm, func(c *api.Conf) { c.Ageing = 9 }},
		{api.ErrForm, func(c *api.Conf) { c.Table = 65 }},
		{api.ErrNone, func(c *api.Conf) { c.Ports = nil }},
		{api.ErrLong, func(c *api.Conf) { c.Ports = append(c.Ports, make([]api.PortConf, 5)...) }},
		{api.ErrForm, func(c *api.Conf) {
			if len(c.Ports) > 0 {
				c.Ports[0].Cost = 0
			}
		}},
	}
}

// TestCheckTellsTheFirst puts any faults together: the first one is told.
func TestCheckTellsTheFirst(t *testing.T) {
	all := faults()
	const none, long = 6, 7
	for set := range 1 << len(all) {
		if set>>none&1 == 1 && set>>long&1 == 1 {
			continue
		}
		d, want := good(), api.OK
		for i, f := range all {
			if set>>i&1 == 0 {
				continue
			}
			f.do(&d)
			if want == api.OK {
				want = f.err
			}
		}
		checkCheck(t, d, want)
	}
}

// 11.2: Id.

func TestId(t *testing.T) {
	for _, c := range []struct {
		prio uint16
		addr api.Addr
		want api.BridgeId
	}{
		{0, 0, 0}, {0, 1, 1}, {1, 0, 1 << 48}, {0x8000, 7, 0x8000000000000007}, {1, 258, 0x0001000000000102},
		{32768, 0x020304050607, 0x8000020304050607}, {65535, 0xFEFFFFFFFFFF, 0xFFFFFEFFFFFFFFFF},
		// No addresses that may be one's: they count all the same.
		{5, 1 << 40, 0x0005010000000000}, {5, api.Reserved, 0x00050180C2000000}, {65535, api.Broadcast, math.MaxUint64}, {0, api.Broadcast, 1<<48 - 1},
		// No addresses: their lowest 48 bits count.
		{5, 1 << 48, 0x0005000000000000}, {5, 1<<48 + 7, 0x0005000000000007}, {0, 1 << 63, 0}, {0, math.MaxUint64, 1<<48 - 1}, {0x1234, 0xFFFF000000000001, 0x1234000000000001}, {1, 0x000300000000000A, 0x000100000000000A},
	} {
		d := good()
		d.Prio, d.Addr = c.prio, c.addr
		checkId(t, d, c.want)
		checkId(t, api.Conf{Prio: c.prio, Addr: c.addr}, c.want)
	}
}

func TestIdOfEachBit(t *testing.T) {
	for bit := range 64 {
		d := good()
		d.Prio, d.Addr = 0, 1<<bit
		want := api.BridgeId(0)
		if bit < 48 {
			want = 1 << bit
		}
		checkId(t, d, want)
	}
	for bit := range 16 {
		d := good()
		d.Prio, d.Addr = 1<<bit, 0
		checkId(t, d, 1<<(48+bit))
	}
}

// 11.2: PortId.

func TestPortId(t *testing.T) {
	d := good()
	d.Ports = []api.PortConf{{Prio: 128, Cost: 19}, {Prio: 0}, {Prio: 255, Cost: math.MaxUint32}, {Prio: 1, On: true}}
	for _, c := range []struct {
		i    int
		want api.PortId
	}{
		{0, 0x8001}, {1, 0x0002}, {2, 0xFF03}, {3, 0x0104},
		{-1, 0}, {4, 0}, {5, 0}, {-4, 0}, {255, 0}, {256, 0}, {-256, 0}, {-255, 0}, {65536, 0}, {1 << 31, 0}, {1 << 32, 0}, {1<<32 + 1, 0}, {-1 << 32, 0},
		{math.MinInt, 0}, {math.MinInt + 1, 0}, {math.MaxInt - 1, 0}, {math.MaxInt, 0},
	} {
		checkPortId(t, d, c.i, c.want)
	}
}

func TestPortIdOfNoPort(t *testing.T) {
	room := make([]api.PortConf, 4, 8)
	for i := range room {
		room[i].Prio = 7
	}
	for _, ports := range [][]api.PortConf{nil, {}, room[:0]} {
		for _, i := range []int{math.MinInt, -1, 0, 1, 3, 254, 255, 256, math.MaxInt} {
			d := good()
			d.Ports = ports
			checkPortId(t, d, i, 0)
		}
	}
	d := good()
	d.Ports = room[:2]
	checkPortId(t, d, 1, 0x0702)
	// A place in the spare room is none.
	checkPortId(t, d, 2, 0)
	checkPortId(t, d, 4, 0)
}

// TestPortIdOfEach goes over as many ports as a number tells, of any
// configuration: more than may be.
func TestPortIdOfEach(t *testing.T) {
	d := api.Conf{Ports: make([]api.PortConf, 255)}
	for prio := range 256 {
		for i := range d.Ports {
			d.Ports[i].Prio = uint8(prio + i)
		}
		for i := range d.Ports {
			if got, want := conf.PortId(d, i), api.PortId(uint8(prio+i))*256+api.PortId(i+1); got != want {
				t.Fatalf("PortId of port %d, of priority %d = %#x, want %#x", i, uint8(prio+i), got, want)
			}
		}
	}
}

// 11.2: Copy.

func TestCopy(t *testing.T) {
	checkCopy(t, good())
	checkCopy(t, api.Conf{})
	checkCopy(t, api.Conf{Addr: math.MaxUint64, Prio: 65535, MaxAge: math.MinInt, Hello: math.MaxInt, Delay: -1, Ageing: math.MaxInt - 1, Table: math.MinInt + 1})
	for _, ports := range [][]api.PortConf{
		nil,
		{},
		make([]api.PortConf, 0, 5),
		make([]api.PortConf, 3, 9),
		good().Ports[:1],
		good().Ports[1:],
		append(make([]api.PortConf, 0, 2), api.PortConf{Prio: 255, Cost: math.MaxUint32, On: true}),
		make([]api.PortConf, 5),
		make([]api.PortConf, 1000),
	} {
		d := good()
		d.Ports = ports
		checkCopy(t, d)
	}
}

// TestCopyOfEachField lets each field be another number, so that none stands for another.
func TestCopyOfEachField(t *testing.T) {
	for _, c := range []api.Conf{
		{Addr: 9}, {Prio: 9}, {MaxAge: 9}, {Hello: 9}, {Delay: 9}, {Ageing: 9}, {Table: 9},
		{Ports: []api.PortConf{{Prio: 9}}}, {Ports: []api.PortConf{{Cost: 9}}}, {Ports: []api.PortConf{{On: true}}},
		{Addr: 1, Prio: 2, MaxAge: 3, Hello: 4, Delay: 5, Ageing: 6, Table: 7, Ports: []api.PortConf{{Prio: 8, Cost: 9, On: true}, {Prio: 10, Cost: 11}}},
	} {
		checkCopy(t, c)
	}
}

// TestCopyIsNotAdded appends to a list that was handed in, and to its copy.
func TestCopyIsNotAdded(t *testing.T) {
	d := good()
	d.Ports = append(make([]api.PortConf, 0, 8), d.Ports...)
	e := conf.Copy(d)
	more := append(d.Ports, api.PortConf{Cost: 1})
	other := append(e.Ports, api.PortConf{Cost: 2})
	if more[2].Cost != 1 || other[2].Cost != 2 {
		t.Fatalf("a copy shares its spare room: %v, %v", more, other)
	}
}

// 11.3: ports of one bridge have unlike numbers.

func TestPortsAreUnlike(t *testing.T) {
	prios := []uint8{0, 1, 2, 127, 128, 254, 255}
	n := len(prios)
	for way := range n * n * n * n {
		d := good()
		d.Ports = nil
		for range api.MaxPorts {
			d.Ports = append(d.Ports, api.PortConf{Prio: prios[way%n], Cost: 19})
			way /= n
		}
		checkCheck(t, d, api.OK)
		checkUnlike(t, d)
	}
}

// checkUnlike wants all ports' numbers to be unlike, none 0, each with its place.
func checkUnlike(t *testing.T, c api.Conf) {
	t.Helper()
	met := map[api.PortId]int{}
	for i := range c.Ports {
		id := conf.PortId(c, i)
		if j, there := met[id]; there {
			t.Fatalf("ports %d and %d of %+v are both %#x", j, i, c, id)
		}
		met[id] = i
		if id == 0 || ids.Number(id) != i {
			t.Fatalf("port %d of %+v is %#x, whose place is %d", i, c, id, ids.Number(id))
		}
	}
}

// Long rows, drawn at random, held against what is plain.

// drawn answers a configuration of which some numbers are about those that may be.
func drawn(draw *rand.Rand) api.Conf {
	c := api.Conf{
		Addr: api.Addr(draw.Uint64() >> draw.IntN(40)), Prio: uint16(draw.Uint32()),
		MaxAge: drawnInt(draw, 5, 41), Hello: drawnInt(draw, 0, 11), Delay: drawnInt(draw, 3, 31),
		Ageing: drawnInt(draw, 9, 1000001), Table: drawnInt(draw, -1, 65),
	}
	if draw.IntN(3) > 0 {
		c.Addr &= 1<<48 - 1 - 1<<40
	}
	if many := draw.IntN(7); many > 0 {
		c.Ports = make([]api.PortConf, many, many+draw.IntN(3))
	}
	for i := range c.Ports[:cap(c.Ports)] {
		c.Ports[:cap(c.Ports)][i] = api.PortConf{Prio: uint8(draw.Uint32()), Cost: uint32(drawnInt(draw, 0, 65536)), On: draw.IntN(2) == 0}
	}
	return c
}

// drawnInt answers a number, most times one from the least to the most.
func drawnInt(draw *rand.Rand, least, most int) int {
	switch draw.IntN(60) {
	case 0:
		return least
	case 1:
		return most
	case 2:
		return int(draw.Uint64())
	case 3:
		return mostInts[draw.IntN(len(mostInts))]
	}
	return least + draw.IntN(most-least+1)
}

// checkAll holds every call against what is plain.
func checkAll(t *testing.T, c api.Conf) {
	t.Helper()
	if got, want := conf.Times(c), plainTimes(c.MaxAge, c.Hello, c.Delay); got != want {
		t.Fatalf("Times(%+v) = %t, want %t", c, got, want)
	}
	checkCheck(t, c, plainCheck(c))
	checkId(t, c, api.BridgeId(c.Prio)*(1<<48)+api.BridgeId(c.Addr%(1<<48)))
	for i, p := range c.Ports {
		checkPort(t, p, plainPort(p))
		checkPortId(t, c, i, api.PortId(p.Prio)*256+api.PortId((i+1)%256))
	}
	checkPortId(t, c, -1, 0)
	checkPortId(t, c, len(c.Ports), 0)
	checkCopy(t, c)
}

func TestOfLongRows(t *testing.T) {
	draw := rand.New(rand.NewPCG(11, 1))
	met := map[api.Errno]int{}
	for range 100000 {
		c := drawn(draw)
		checkAll(t, c)
		met[conf.Check(c)]++
		if conf.Check(c) == api.OK {
			checkUnlike(t, c)
		}
	}
	for _, e := range []api.Errno{api.OK, api.ErrArg, api.ErrForm, api.ErrNone, api.ErrLong} {
		if met[e] < 500 {
			t.Fatalf("of %d only %d were drawn: %v", e, met[e], met)
		}
	}
}

func FuzzOfAny(f *testing.F) {
	f.Add(uint64(7), uint16(0x8000), 20, 2, 15, 300, 8, []byte{128, 0, 0, 0, 19, 1, 0, 0, 255, 255})
	f.Add(uint64(0), uint16(0), 0, 0, 0, 0, 0, []byte{})
	f.Add(uint64(1<<48), uint16(65535), math.MaxInt, math.MinInt, -1, 1000001, 65, []byte{1, 2, 3, 4, 5, 6, 7, 8, 9, 10})
	f.Fuzz(func(t *testing.T, addr uint64, prio uint16, maxAge, hello, delay, ageing, table int, ports []byte) {
		c := api.Conf{Addr: api.Addr(addr), Prio: prio, MaxAge: maxAge, Hello: hello, Delay: delay, Ageing: ageing, Table: table}
		for p := range slices.Chunk(ports, 5) {
			if len(p) == 5 {
				c.Ports = append(c.Ports, api.PortConf{Prio: p[0], Cost: uint32(p[1])<<24 | uint32(p[2])<<16 | uint32(p[3])<<8 | uint32(p[4]), On: p[0]%2 == 0})
			}
		}
		checkAll(t, c)
	})
}
