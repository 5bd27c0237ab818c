package fdb_test

import (
	"cmp"
	"fmt"
	"iter"
	"math"
	"math/rand/v2"
	"slices"
	"testing"

	"treeline/api"
	"treeline/fdb"
	"treeline/hash"
)

// sizes are what New may be asked for, and how many addresses there may be then.
var sizes = []struct{ asked, want int }{
	{math.MinInt, 0}, {math.MinInt32, 0}, {-65, 0}, {-64, 0}, {-2, 0}, {-1, 0},
	{0, 0}, {1, 1}, {2, 2}, {3, 3}, {31, 31}, {32, 32}, {62, 62}, {63, 63}, {64, 64},
	{65, 64}, {66, 64}, {127, 64}, {128, 64}, {1000, 64}, {65536, 64}, {math.MaxInt32, 64}, {math.MaxInt, 64},
}

// wrong are numbers that may not be one's: none, several ones', and too great.
var wrong = []api.Addr{
	0, 1 << 40, 1<<40 | 258, 3 << 40, 0xFF << 40, api.Reserved, api.Reserved + 15, api.Broadcast - 1, api.Broadcast,
	1 << 48, 1<<48 | 258, 1<<48 | 10, 0xFFFF<<48 | 258, 1 << 62, 1 << 63, 1<<63 | 258, math.MaxUint64 - 1, math.MaxUint64,
}

// right are addresses that may be one's, at the edges of what may.
var right = []api.Addr{
	1, 2, 255, 256, 258, 1<<32 - 1, 1 << 32, 1<<40 - 1, 2 << 40, 2<<40 | 258, 0x80 << 40, 0xFE<<40 | 1<<40 - 1,
}

// ports are numbers of ports: any may be.
var ports = []int{0, 1, 2, 3, 4, 5, 255, 256, -1, -2, -255, math.MaxInt32, math.MinInt32, math.MaxInt, math.MinInt}

// limits are what Tick may be handed.
var limits = []int{math.MinInt, -2, -1, 0, 1, 2, 3, 4, 5, 6, 10, 1<<30 - 1, 1 << 30, 1<<30 + 1, math.MaxInt}

// entry is an address, with its port and its age.
type entry struct {
	a api.Addr
	e fdb.Entry
}

// model is what a table should be: a plain list, of no more than size.
type model struct {
	size int
	list []entry
}

func mayBeOnes(a api.Addr) bool {
	return a >= 1 && a <= 1<<48-1 && a/(1<<40)%2 == 0
}

func (m *model) find(a api.Addr) int {
	return slices.IndexFunc(m.list, func(x entry) bool { return x.a == a })
}

func (m *model) learn(a api.Addr, port int) bool {
	if !mayBeOnes(a) {
		return false
	}
	if i := m.find(a); i >= 0 {
		m.list[i].e = fdb.Entry{Port: port, Age: 0}
		return true
	}
	if len(m.list) >= m.size {
		return false
	}
	m.list = append(m.list, entry{a, fdb.Entry{Port: port, Age: 0}})
	return true
}

func (m *model) lookup(a api.Addr) (int, bool) {
	if i := m.find(a); i >= 0 {
		return m.list[i].e.Port, true
	}
	return 0, false
}

func (m *model) tick(limit int) int {
	for i := range m.list {
		m.list[i].e.Age = min(m.list[i].e.Age+1, 1<<30)
	}
	return m.takeOut(func(x entry) bool { return x.e.Age >= limit })
}

func (m *model) flush(port int) int {
	return m.takeOut(func(x entry) bool { return x.e.Port == port })
}

func (m *model) takeOut(goes func(x entry) bool) int {
	many := len(m.list)
	m.list = slices.DeleteFunc(m.list, goes)
	return many - len(m.list)
}

func (m *model) rising() []entry {
	list := slices.Clone(m.list)
	slices.SortFunc(list, func(x, y entry) int { return cmp.Compare(x.a, y.a) })
	return list
}

// both are a table and its model, to which the same is done.
type both struct {
	f *fdb.Fdb
	m model
}

func newBoth(size int) *both {
	return &both{fdb.New(size), model{size: size}}
}

func (x *both) learn(t *testing.T, a api.Addr, port int) {
	t.Helper()
	had := fmt.Sprint(x.m.list)
	if got, want := x.f.Learn(a, port), x.m.learn(a, port); got != want {
		t.Fatalf("Learn(%x, %d) = %t, want %t; the table had %s", a, port, got, want, had)
	}
}

func (x *both) tick(t *testing.T, limit int) {
	t.Helper()
	had := fmt.Sprint(x.m.list)
	if got, want := x.f.Tick(limit), x.m.tick(limit); got != want {
		t.Fatalf("Tick(%d) = %d, want %d; the table had %s", limit, got, want, had)
	}
}

func (x *both) flush(t *testing.T, port int) {
	t.Helper()
	had := fmt.Sprint(x.m.list)
	if got, want := x.f.Flush(port), x.m.flush(port); got != want {
		t.Fatalf("Flush(%d) = %d, want %d; the table had %s", port, got, want, had)
	}
}

// check holds all that a table answers against its model.
func (x *both) check(t *testing.T, asked []api.Addr) {
	t.Helper()
	if got := x.f.Len(); got != len(x.m.list) {
		t.Fatalf("Len() = %d, want %d", got, len(x.m.list))
	}
	for _, a := range asked {
		port, ok := x.f.Lookup(a)
		if want, there := x.m.lookup(a); port != want || ok != there {
			t.Fatalf("Lookup(%x) = %d, %t, want %d, %t; the table has %v", a, port, ok, want, there, x.m.list)
		}
	}
	if got, want := all(x.f), x.m.rising(); !slices.Equal(got, want) {
		t.Fatalf("All() = %v, want %v", got, want)
	}
}

// all answers what All hands out.
func all(f *fdb.Fdb) []entry {
	return begin(f.All(), math.MaxInt)
}

// begin answers what is handed out till it is stopped behind so many steps. It
// hands in a function of its own, which would hear of a step more.
func begin(seq iter.Seq2[api.Addr, fdb.Entry], steps int) []entry {
	var list []entry
	seq(func(a api.Addr, e fdb.Entry) bool {
		list = append(list, entry{a, e})
		return len(list) < steps
	})
	return list
}

// filled answers a full table of that size, and its addresses, which were
// heard behind the ports 0 to 3, some of them some ticks ago.
func filled(t *testing.T, size int) (*both, []api.Addr) {
	t.Helper()
	x := newBoth(size)
	var list []api.Addr
	for i := range size {
		a := api.Addr(10*(i*37%64) + 10)
		x.learn(t, a, i%4)
		list = append(list, a)
		if i%7 == 6 {
			x.tick(t, 100)
		}
	}
	return x, list
}

// aged answers a table of 64 with addresses of each age below ages, one behind
// each of the ports 1 to 3, and the addresses.
func aged(t *testing.T, ages int) (*both, []api.Addr) {
	t.Helper()
	x := newBoth(64)
	var list []api.Addr
	for age := ages - 1; age >= 0; age-- {
		for port := 1; port <= 3; port++ {
			a := api.Addr(100*port + age)
			x.learn(t, a, port)
			list = append(list, a)
		}
		if age > 0 {
			x.tick(t, ages+1)
		}
	}
	return x, list
}

// 8.1: New and Len.

func TestNew(t *testing.T) {
	for _, c := range sizes {
		x := newBoth(c.want)
		x.f = fdb.New(c.asked)
		x.check(t, append(slices.Clone(right), wrong...))
		for _, limit := range limits {
			x.tick(t, limit)
		}
		for _, port := range ports {
			x.flush(t, port)
		}
		x.check(t, append(slices.Clone(right), wrong...))
	}
}

func TestSizeIsHowManyAreLearnt(t *testing.T) {
	for _, c := range sizes {
		f := fdb.New(c.asked)
		learnt := 0
		for i := range 200 {
			if f.Learn(api.Addr(i+1), 1) {
				learnt++
			}
			if got := f.Len(); got != learnt {
				t.Fatalf("New(%d): Len() = %d, but %d are learnt", c.asked, got, learnt)
			}
		}
		if learnt != c.want {
			t.Errorf("New(%d): %d are learnt, want %d", c.asked, learnt, c.want)
		}
	}
}

func TestLen(t *testing.T) {
	f := fdb.New(3)
	for i, c := range []struct {
		do   func()
		want int
	}{
		{func() { f.Learn(5, 1) }, 1},
		{func() { f.Learn(5, 2) }, 1},
		{func() { f.Learn(0, 1) }, 1},
		{func() { f.Learn(6, 1) }, 2},
		{func() { f.Tick(2) }, 2},
		{func() { f.Learn(7, 1) }, 3},
		{func() { f.Learn(8, 1) }, 3},
		{func() { f.Flush(2) }, 2},
		{func() { f.Tick(2) }, 1},
		{func() { f.Learn(8, 1) }, 2},
		{func() { f.Flush(1) }, 0},
		{func() { f.Flush(1) }, 0},
		{func() { f.Learn(8, 1) }, 1},
		{func() { f.Tick(0) }, 0},
	} {
		c.do()
		if got := f.Len(); got != c.want {
			t.Errorf("step %d: Len() = %d, want %d", i, got, c.want)
		}
	}
}

func TestTablesAreApart(t *testing.T) {
	one, other := newBoth(4), newBoth(4)
	one.learn(t, 5, 1)
	one.learn(t, 6, 2)
	other.learn(t, 5, 3)
	one.tick(t, 5)
	one.check(t, []api.Addr{5, 6})
	other.check(t, []api.Addr{5, 6})
	one.flush(t, 1)
	other.tick(t, 1)
	one.check(t, []api.Addr{5, 6})
	other.check(t, []api.Addr{5, 6})
}

// 8.1: Learn and Lookup.

// TestLearnWhatMayBeOnes learns an address into a table in which there is room.
func TestLearnWhatMayBeOnes(t *testing.T) {
	for _, a := range right {
		f := fdb.New(1)
		if !f.Learn(a, 3) {
			t.Errorf("Learn(%x, 3) = false", a)
		}
		if port, ok := f.Lookup(a); port != 3 || !ok {
			t.Errorf("Lookup(%x) = %d, %t", a, port, ok)
		}
		if got := all(f); !slices.Equal(got, []entry{{a, fdb.Entry{Port: 3}}}) {
			t.Errorf("All() = %v behind Learn(%x, 3)", got, a)
		}
	}
}

// TestLearnWhatMayNotBeOnes learns wrong addresses into an empty table, a
// partly filled one and a full one.
func TestLearnWhatMayNotBeOnes(t *testing.T) {
	for _, size := range []int{0, 1, 2, 3, 64} {
		x := newBoth(size)
		for many := range size + 1 {
			for _, a := range wrong {
				if x.f.Learn(a, 1) {
					t.Fatalf("of %d, %d are there: Learn(%x, 1) = true", size, many, a)
				}
			}
			x.check(t, append([]api.Addr{10, 258}, wrong...))
			x.learn(t, api.Addr(10*many+10), many)
			x.tick(t, 1000)
		}
	}
}

// TestLearnAtEachFilling learns one that is there, and one that isn't, into
// tables that are filled with each number of addresses.
func TestLearnAtEachFilling(t *testing.T) {
	for _, size := range []int{0, 1, 2, 3, 5, 63, 64} {
		for many := range size + 1 {
			x := newBoth(size)
			var there []api.Addr
			for i := range many {
				there = append(there, api.Addr(i+1))
				x.learn(t, api.Addr(i+1), i)
				x.tick(t, 1000)
			}
			for i, a := range there {
				x.learn(t, a, i+10)
				x.check(t, there)
			}
			for _, a := range []api.Addr{1000, 1000, 2000, 1 << 46} {
				x.learn(t, a, 77)
				x.check(t, append([]api.Addr{1000, 2000, 1 << 46}, there...))
			}
		}
	}
}

func TestPortsOfAnyNumber(t *testing.T) {
	x := newBoth(len(ports))
	var asked []api.Addr
	for i, port := range ports {
		a := api.Addr(i*100 + 1)
		asked = append(asked, a)
		x.learn(t, a, port)
		if got, ok := x.f.Lookup(a); got != port || !ok {
			t.Errorf("Lookup(%d) = %d, %t, want %d", a, got, ok, port)
		}
	}
	x.check(t, asked)
	for _, port := range ports {
		x.learn(t, asked[0], port)
		x.check(t, asked)
	}
	x.learn(t, asked[0], ports[0])
	for i, port := range ports {
		x.flush(t, port)
		if got, ok := x.f.Lookup(asked[i]); ok {
			t.Errorf("Lookup(%d) = %d, true behind Flush(%d)", asked[i], got, port)
		}
		x.check(t, asked)
	}
}

func TestLearnBringsAnAgeBackTo0(t *testing.T) {
	f := fdb.New(2)
	f.Learn(5, 1)
	f.Learn(6, 1)
	for range 3 {
		f.Tick(10)
	}
	if !f.Learn(5, 1) {
		t.Fatalf("Learn(5, 1) = false")
	}
	if got := all(f); !slices.Equal(got, []entry{{5, fdb.Entry{Port: 1, Age: 0}}, {6, fdb.Entry{Port: 1, Age: 3}}}) {
		t.Errorf("All() = %v", got)
	}
	if got := f.Tick(4); got != 1 {
		t.Errorf("Tick(4) = %d", got)
	}
	if got := all(f); !slices.Equal(got, []entry{{5, fdb.Entry{Port: 1, Age: 1}}}) {
		t.Errorf("All() = %v", got)
	}
}

func TestLearnMovesToAnotherPort(t *testing.T) {
	f := fdb.New(1)
	f.Learn(5, 1)
	f.Tick(10)
	if !f.Learn(5, 2) {
		t.Fatalf("Learn(5, 2) = false")
	}
	if port, ok := f.Lookup(5); port != 2 || !ok {
		t.Errorf("Lookup(5) = %d, %t", port, ok)
	}
	if got := all(f); !slices.Equal(got, []entry{{5, fdb.Entry{Port: 2, Age: 0}}}) {
		t.Errorf("All() = %v", got)
	}
	if got := f.Flush(1); got != 0 {
		t.Errorf("Flush(1) = %d", got)
	}
	if got := f.Flush(2); got != 1 {
		t.Errorf("Flush(2) = %d", got)
	}
}

// TestLookupDoesNotHear asks for an address behind each tick: that alone
// doesn't keep it.
func TestLookupDoesNotHear(t *testing.T) {
	f := fdb.New(1)
	f.Learn(5, 1)
	for range 2 {
		f.Lookup(5)
		if got := f.Tick(3); got != 0 {
			t.Errorf("Tick(3) = %d", got)
		}
	}
	f.Lookup(5)
	if got := f.Tick(3); got != 1 {
		t.Errorf("the third Tick(3) = %d", got)
	}
}

func TestLookupOfWhatIsNotThere(t *testing.T) {
	x, list := filled(t, 20)
	for _, a := range append([]api.Addr{5, 9, 11, 641, 1 << 46}, wrong...) {
		if port, ok := x.f.Lookup(a); port != 0 || ok {
			t.Errorf("Lookup(%x) = %d, %t", a, port, ok)
		}
	}
	for _, a := range list {
		if port, ok := x.f.Lookup(a + 1<<48); port != 0 || ok {
			t.Errorf("Lookup(%x) = %d, %t", a+1<<48, port, ok)
		}
	}
	x.flush(t, 2)
	for i, a := range list {
		port, ok := x.f.Lookup(a)
		if i%4 == 2 && (port != 0 || ok) || i%4 != 2 && (port != i%4 || !ok) {
			t.Errorf("behind Flush(2): Lookup(%x) = %d, %t", a, port, ok)
		}
	}
}

// 8.1: All.

func TestAllOfAnEmptyTable(t *testing.T) {
	for _, size := range []int{-1, 0, 1, 64} {
		f := fdb.New(size)
		seq := f.All()
		if seq == nil {
			t.Fatalf("of %d places: All() = nil", size)
		}
		for a, e := range seq {
			t.Errorf("of %d places: All() has %x, %v", size, a, e)
		}
	}
}

func TestAllRises(t *testing.T) {
	draw := rand.New(rand.NewPCG(8, 1))
	for _, size := range []int{len(right), len(right) + 1, 64} {
		for range 50 {
			f := fdb.New(size)
			for _, i := range draw.Perm(len(right)) {
				f.Learn(right[i], 100-i)
			}
			for i, x := range all(f) {
				if x != (entry{right[i], fdb.Entry{Port: 100 - i}}) {
					t.Fatalf("of %d places: place %d of All() = %v", size, i, x)
				}
			}
			if got := len(all(f)); got != len(right) {
				t.Fatalf("of %d places: All() hands out %d", size, got)
			}
		}
	}
}

func TestAllOfAFullTable(t *testing.T) {
	for size := range api.MaxTable + 1 {
		x, list := filled(t, size)
		x.check(t, list)
		for i, got := range all(x.f) {
			if i > 0 && got.a <= all(x.f)[i-1].a {
				t.Errorf("of %d: place %d of All() doesn't rise", size, i)
			}
		}
	}
}

// TestAllIsBegunTwice begins one and the same behind the other, and within it.
func TestAllIsBegunTwice(t *testing.T) {
	x, _ := filled(t, 20)
	want, seq := x.m.rising(), x.f.All()
	if got := begin(seq, math.MaxInt); !slices.Equal(got, want) {
		t.Errorf("All() = %v, want %v", got, want)
	}
	steps := 0
	for a, e := range seq {
		steps++
		if got := begin(seq, steps); !slices.Equal(got, want[:steps]) || got[steps-1] != (entry{a, e}) {
			t.Errorf("step %d of All() is %x, %v; begun within it = %v, want %v", steps, a, e, got, want[:steps])
		}
	}
	if steps != len(want) {
		t.Errorf("All() hands out %d, want %d", steps, len(want))
	}
}

// TestAllAsItIsWhenOneBegins learns, ticks and flushes between the call and
// each time that one begins to go through what it answered.
func TestAllAsItIsWhenOneBegins(t *testing.T) {
	x := newBoth(4)
	seq := x.f.All()
	for i, do := range []func(){
		func() {},
		func() { x.learn(t, 30, 1); x.learn(t, 10, 2) },
		func() { x.tick(t, 5) },
		func() { x.learn(t, 10, 3) },
		func() { x.learn(t, 20, 3); x.learn(t, 40, 5); x.learn(t, 50, 6) },
		func() { x.flush(t, 3) },
		func() { x.tick(t, 2) },
		func() { x.learn(t, 50, 1) },
		func() { x.tick(t, 0) },
	} {
		do()
		if got, want := begin(seq, math.MaxInt), x.m.rising(); !slices.Equal(got, want) {
			t.Errorf("time %d: All() = %v, want %v", i, got, want)
		}
	}
}

// TestAllStopped stops behind each number of steps.
func TestAllStopped(t *testing.T) {
	for _, size := range []int{1, 2, 3, 20, 64} {
		x, list := filled(t, size)
		for steps := 1; steps <= size; steps++ {
			if got, want := begin(x.f.All(), steps), x.m.rising()[:steps]; !slices.Equal(got, want) {
				t.Errorf("of %d, the first %d of All() = %v, want %v", size, steps, got, want)
			}
		}
		x.check(t, list)
	}
}

// 8.2: Tick.

func TestExample(t *testing.T) {
	f := fdb.New(1)
	if !f.Learn(2, 1) {
		t.Errorf("Learn(2, 1) = false")
	}
	if got := f.Tick(2); got != 0 {
		t.Errorf("Tick(2) = %d", got)
	}
	if port, ok := f.Lookup(2); port != 1 || !ok {
		t.Errorf("Lookup(2) = %d, %t", port, ok)
	}
	if got := f.Tick(2); got != 1 {
		t.Errorf("Tick(2) = %d a second time", got)
	}
	if port, ok := f.Lookup(2); port != 0 || ok || f.Len() != 0 {
		t.Errorf("Lookup(2) = %d, %t a second time; Len() = %d", port, ok, f.Len())
	}
}

func TestTickMakesOlder(t *testing.T) {
	f := fdb.New(3)
	f.Learn(7, 3)
	f.Learn(6, 2)
	for age := 1; age <= 1000; age++ {
		if got := f.Tick(5000); got != 0 {
			t.Fatalf("tick %d: Tick(5000) = %d", age, got)
		}
		want := []entry{{6, fdb.Entry{Port: 2, Age: age}}, {7, fdb.Entry{Port: 3, Age: age}}}
		if got := all(f); !slices.Equal(got, want) {
			t.Fatalf("tick %d: All() = %v, want %v", age, got, want)
		}
	}
}

// TestTickAtEachLimit ticks a table of ages 0 to 4, once, with each limit.
func TestTickAtEachLimit(t *testing.T) {
	for _, limit := range limits {
		x, list := aged(t, 5)
		want := 15 - 3*min(max(limit, 1)-1, 5)
		if got := x.f.Tick(limit); got != want {
			t.Errorf("Tick(%d) = %d, want %d", limit, got, want)
		}
		x.m.tick(limit)
		x.check(t, list)
		x.tick(t, limit)
		x.check(t, list)
	}
}

// TestTickAboutTheAgeThatAnAddressWillHave hands Tick that age, one less and one more.
func TestTickAboutTheAgeThatAnAddressWillHave(t *testing.T) {
	for age := 1; age <= 50; age++ {
		for more, want := range map[int]int{-1: 1, 0: 1, 1: 0} {
			f := fdb.New(1)
			f.Learn(9, 1)
			for range age - 1 {
				if got := f.Tick(age + 1); got != 0 {
					t.Fatalf("Tick(%d) = %d", age+1, got)
				}
			}
			if got := f.Tick(age + more); got != want {
				t.Errorf("the %dth tick: Tick(%d) = %d, want %d", age, age+more, got, want)
			}
			if got := f.Len(); got != 1-want {
				t.Errorf("the %dth tick: Len() = %d behind Tick(%d)", age, got, age+more)
			}
		}
	}
}

// TestTickOfUnlikeLimits takes out by the limit of that tick, whatever those
// ahead of it were.
func TestTickOfUnlikeLimits(t *testing.T) {
	x, list := aged(t, 9)
	for _, limit := range []int{20, 10, 11, 9, 20, 3, 7, 8, 1} {
		x.learn(t, 5, limit)
		x.tick(t, limit)
		x.check(t, list)
	}
	if got := x.f.Len(); got != 0 {
		t.Errorf("Len() = %d behind Tick(1)", got)
	}
}

// TestTickGoesOnAtEachSize lets all of a full table go at the same time, and
// one behind the other.
func TestTickGoesOnAtEachSize(t *testing.T) {
	for size := range api.MaxTable + 1 {
		for _, step := range []int{0, 1} {
			x := newBoth(size)
			var list []api.Addr
			for i := range size {
				x.learn(t, api.Addr(i*37%64+1), i%3)
				list = append(list, api.Addr(i*37%64+1))
				for range step {
					x.tick(t, 1000)
				}
			}
			for x.f.Len() > 0 {
				x.tick(t, size+1)
				x.check(t, list)
			}
		}
	}
}

// 8.2: Flush.

func TestFlush(t *testing.T) {
	f := fdb.New(8)
	for i, port := range []int{1, 2, 1, 3, 1, 2} {
		f.Learn(api.Addr(60-10*i), port)
		f.Tick(100)
	}
	if got := f.Flush(4); got != 0 || f.Len() != 6 {
		t.Errorf("Flush(4) = %d; Len() = %d", got, f.Len())
	}
	if got := f.Flush(1); got != 3 {
		t.Errorf("Flush(1) = %d", got)
	}
	want := []entry{{10, fdb.Entry{Port: 2, Age: 1}}, {30, fdb.Entry{Port: 3, Age: 3}}, {50, fdb.Entry{Port: 2, Age: 5}}}
	if got := all(f); !slices.Equal(got, want) {
		t.Errorf("All() = %v, want %v", got, want)
	}
	if got := f.Flush(1); got != 0 {
		t.Errorf("Flush(1) = %d a second time", got)
	}
	if got := f.Flush(2); got != 2 {
		t.Errorf("Flush(2) = %d", got)
	}
	if got := f.Flush(3); got != 1 || f.Len() != 0 {
		t.Errorf("Flush(3) = %d; Len() = %d", got, f.Len())
	}
}

// TestFlushOfAPortThatAllWereHeardBehind does so at each size.
func TestFlushOfAPortThatAllWereHeardBehind(t *testing.T) {
	for size := range api.MaxTable + 1 {
		for _, port := range ports {
			f := fdb.New(size)
			for i := range size {
				f.Learn(api.Addr(i+1), port)
			}
			for _, other := range ports {
				if other == port {
					continue
				}
				if got := f.Flush(other); got != 0 || f.Len() != size {
					t.Fatalf("of %d behind %d: Flush(%d) = %d; Len() = %d", size, port, other, got, f.Len())
				}
			}
			if got := f.Flush(port); got != size || f.Len() != 0 || len(all(f)) != 0 {
				t.Fatalf("of %d: Flush(%d) = %d; Len() = %d", size, port, got, f.Len())
			}
		}
	}
}

// TestFlushLeavesTheOthersAsTheyWere asks for their ports and ages, and learns anew.
func TestFlushLeavesTheOthersAsTheyWere(t *testing.T) {
	for _, size := range []int{1, 2, 3, 5, 8, 63, 64} {
		for port := -1; port <= 4; port++ {
			x, list := filled(t, size)
			x.flush(t, port)
			x.check(t, list)
			for i, a := range list {
				x.learn(t, a, i%5)
				x.learn(t, api.Addr(i+1000), 4)
				x.check(t, list)
			}
			x.flush(t, 4)
			x.tick(t, 2)
			x.check(t, list)
		}
	}
}

// 8.3: a full table, and an address that isn't heard.

func TestFullTable(t *testing.T) {
	for size := range api.MaxTable + 1 {
		x, list := filled(t, size)
		news := append(slices.Clone(right), wrong...)
		asked := append(slices.Clone(list), news...)
		for i, a := range news {
			if x.f.Learn(a, i) {
				t.Fatalf("a full table of %d learns %x", size, a)
			}
			x.check(t, asked)
		}
		for i, a := range list {
			x.learn(t, a, i)
			if x.f.Learn(1, 1) {
				t.Fatalf("a full table of %d learns 1", size)
			}
			x.check(t, asked)
		}
		x.tick(t, 1000)
		if x.f.Learn(1, 1) {
			t.Fatalf("a full table of %d learns 1 behind a tick", size)
		}
		x.flush(t, 0)
		for i, a := range right {
			x.learn(t, a, i)
			x.check(t, asked)
		}
	}
}

// TestWhoIsNotHeardIsGoneWithinLimitTicks lets one address be heard now and
// then, others not: these are gone within limit ticks, in just as many.
func TestWhoIsNotHeardIsGoneWithinLimitTicks(t *testing.T) {
	for _, limit := range []int{-5, -1, 0, 1, 2, 3, 15, 300} {
		f := fdb.New(4)
		f.Learn(6, 1)
		f.Learn(7, 2)
		for tick := 1; tick <= max(limit, 1); tick++ {
			f.Learn(5, 1)
			want := 0
			if tick >= limit {
				want = 2
			}
			if limit <= 1 {
				want = 3
			}
			if got := f.Tick(limit); got != want {
				t.Errorf("limit %d, tick %d: Tick = %d, want %d", limit, tick, got, want)
			}
		}
		_, six := f.Lookup(6)
		_, seven := f.Lookup(7)
		if six || seven {
			t.Errorf("limit %d: who isn't heard is still there", limit)
		}
		if _, five := f.Lookup(5); five != (limit > 1) {
			t.Errorf("limit %d: Lookup(5) = %t", limit, five)
		}
	}
}

// 8.1 to 8.3: long rows, drawn at random, always the same ones.

// pool answers addresses to draw from, for a table of that size: more than
// there are places, many of them looked for at one place, and wrong ones.
func pool(size int) []api.Addr {
	list := append(slices.Clone(right[:4]), wrong[:6]...)
	for a := api.Addr(1000); len(list) < size+size/2+12; a++ {
		if a%2 == 0 || hash.Slot(a, max(size, 1)) == max(size, 1)-1 {
			list = append(list, a)
		}
	}
	return list
}

func TestLongRows(t *testing.T) {
	for _, size := range []int{0, 1, 2, 3, 4, 5, 8, 16, 31, 63, 64} {
		for _, ticks := range []int{1, 5, 30} {
			t.Run(fmt.Sprintf("%d places, a tick in %d steps", size, ticks), func(t *testing.T) {
				longRow(t, size, ticks, rand.New(rand.NewPCG(uint64(size), uint64(ticks))))
			})
		}
	}
}

// longRow learns mostly, and ticks once in so many steps; now and then it
// flushes, or ticks with a limit that takes out many.
func longRow(t *testing.T, size, ticks int, draw *rand.Rand) {
	x := newBoth(size)
	list := pool(size)
	for range 1500 {
		switch {
		case draw.IntN(40) == 0:
			x.flush(t, draw.IntN(6)-1)
		case draw.IntN(60) == 0:
			x.tick(t, limits[draw.IntN(len(limits))])
		case draw.IntN(ticks+1) == 0:
			x.tick(t, 5+draw.IntN(20))
		default:
			x.learn(t, list[draw.IntN(len(list))], draw.IntN(5))
		}
		x.check(t, list)
	}
}

// FuzzFdb reads a size, then steps: of each byte what is done, with which
// address, port or limit.
func FuzzFdb(f *testing.F) {
	f.Add([]byte{2, 10, 20, 30, 200, 201, 240, 10})
	f.Add([]byte{64, 0, 16, 32, 128, 144, 0, 255, 200, 0})
	f.Fuzz(func(t *testing.T, b []byte) {
		if len(b) == 0 {
			return
		}
		x := newBoth(int(b[0]) % (api.MaxTable + 1))
		var asked []api.Addr
		for a := range api.Addr(48) {
			asked = append(asked, a)
		}
		for _, c := range b[1:] {
			switch {
			case c < 192:
				x.learn(t, api.Addr(c%48), int(c/48))
			case c < 240:
				x.tick(t, int(c)-200)
			default:
				x.flush(t, int(c)-242)
			}
			x.check(t, asked)
		}
	})
}
