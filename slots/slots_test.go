package slots_test

import (
	"cmp"
	"errors"
	"fmt"
	"math"
	"math/rand/v2"
	"slices"
	"testing"

	"treeline/api"
	"treeline/hash"
	"treeline/slots"
)

// sizes are what New may be asked for, and how many places there are then.
var sizes = []struct{ asked, want int }{
	{math.MinInt, 0}, {math.MinInt + 1, 0}, {math.MinInt32, 0}, {-65, 0}, {-64, 0}, {-2, 0}, {-1, 0},
	{0, 0}, {1, 1}, {2, 2}, {3, 3}, {4, 4}, {7, 7}, {8, 8}, {31, 31}, {32, 32}, {33, 33}, {62, 62}, {63, 63}, {64, 64},
	{65, 64}, {66, 64}, {127, 64}, {128, 64}, {1000, 64}, {65536, 64}, {math.MaxInt32, 64}, {math.MaxInt - 1, 64}, {math.MaxInt, 64},
}

// odd are numbers that are no addresses, or none that one bridge or station has.
var odd = []api.Addr{
	0, api.Reserved, api.Broadcast, 1 << 40,
	1 << 48, 1<<48 | 258, 0xFFFF<<48 | 258, 1 << 62, 1 << 63, 1<<63 | 258, math.MaxUint64 - 1, math.MaxUint64,
}

// pair is an address, and what belongs to it.
type pair struct {
	a api.Addr
	v int
}

// model is what a table should be: a plain list of pairs, no more than size.
type model struct {
	size  int
	pairs []pair
}

func (m *model) find(a api.Addr) int {
	return slices.IndexFunc(m.pairs, func(p pair) bool { return p.a == a })
}

func (m *model) get(a api.Addr) (int, bool) {
	if i := m.find(a); i >= 0 {
		return m.pairs[i].v, true
	}
	return 0, false
}

func (m *model) put(a api.Addr, v int) bool {
	if i := m.find(a); i >= 0 {
		m.pairs[i].v = v
		return true
	}
	if len(m.pairs) >= m.size {
		return false
	}
	m.pairs = append(m.pairs, pair{a, v})
	return true
}

func (m *model) drop(a api.Addr) bool {
	i := m.find(a)
	if i < 0 {
		return false
	}
	m.pairs = slices.Delete(m.pairs, i, i+1)
	return true
}

func (m *model) rising() []pair {
	list := slices.Clone(m.pairs)
	slices.SortFunc(list, func(p, q pair) int { return cmp.Compare(p.a, q.a) })
	return list
}

// both are a table and its model, to which the same is done.
type both struct {
	t *slots.Table[int]
	m model
}

func newBoth(size int) *both {
	return &both{slots.New[int](size), model{size: size}}
}

func (x *both) put(t *testing.T, a api.Addr, v int) {
	t.Helper()
	if got, want := x.t.Put(a, v), x.m.put(a, v); got != want {
		t.Fatalf("Put(%x, %d) = %t, want %t; the table has %v", a, v, got, want, x.m.pairs)
	}
}

func (x *both) drop(t *testing.T, a api.Addr) {
	t.Helper()
	if got, want := x.t.Drop(a), x.m.drop(a); got != want {
		t.Fatalf("Drop(%x) = %t, want %t; the table has %v", a, got, want, x.m.pairs)
	}
}

// check holds all that a table answers against its model.
func (x *both) check(t *testing.T, asked []api.Addr) {
	t.Helper()
	if got := x.t.Size(); got != x.m.size {
		t.Fatalf("Size() = %d, want %d", got, x.m.size)
	}
	if got := x.t.Len(); got != len(x.m.pairs) {
		t.Fatalf("Len() = %d, want %d", got, len(x.m.pairs))
	}
	for _, a := range asked {
		v, ok := x.t.Get(a)
		if want, there := x.m.get(a); v != want || ok != there {
			t.Fatalf("Get(%x) = %d, %t, want %d, %t; the table has %v", a, v, ok, want, there, x.m.pairs)
		}
	}
	if got, want := all(x.t), x.m.rising(); !slices.Equal(got, want) {
		t.Fatalf("All() = %v, want %v", got, want)
	}
}

// all answers what All hands out.
func all(s *slots.Table[int]) []pair {
	var list []pair
	for a, v := range s.All() {
		list = append(list, pair{a, v})
	}
	return list
}

// at answers that many addresses that are looked for at the same one of so
// many places.
func at(first, size, many int) []api.Addr {
	var list []api.Addr
	for a := api.Addr(1); len(list) < many; a++ {
		if hash.Slot(a, size) == first {
			list = append(list, a)
		}
	}
	return list
}

// everywhere answers as many addresses as asked for of each place, one place
// behind the other.
func everywhere(size, each int) []api.Addr {
	var list []api.Addr
	for first := range size {
		list = append(list, at(first, size, each)...)
	}
	return list
}

// alike answers so many numbers whose lowest 48 bits are the same, so that
// they are looked for at the same place, however many there are.
func alike(many int) []api.Addr {
	var list []api.Addr
	for i := range many {
		list = append(list, api.Addr(many-i)<<48|258)
	}
	return list
}

// filled answers a full table of that size, and its addresses.
func filled(t *testing.T, size int) (*both, []api.Addr) {
	t.Helper()
	x := newBoth(size)
	var list []api.Addr
	for i := range size {
		a := api.Addr(10*(i*37%64) + 10)
		x.put(t, a, i+1)
		list = append(list, a)
	}
	return x, list
}

// orders calls f with the numbers below n in each order.
func orders(n int, f func(order []int)) {
	order := make([]int, 0, n)
	var more func()
	more = func() {
		if len(order) == n {
			f(order)
		}
		for i := range n {
			if !slices.Contains(order, i) {
				order = append(order, i)
				more()
				order = order[:len(order)-1]
			}
		}
	}
	more()
}

// 7.1: New, Size, Len and Get.

func TestNew(t *testing.T) {
	for _, c := range sizes {
		s := slots.New[int](c.asked)
		if got := s.Size(); got != c.want {
			t.Errorf("New(%d): Size() = %d, want %d", c.asked, got, c.want)
		}
		if got := s.Len(); got != 0 {
			t.Errorf("New(%d): Len() = %d", c.asked, got)
		}
		for _, a := range append([]api.Addr{1, 2, 258}, odd...) {
			if v, ok := s.Get(a); v != 0 || ok {
				t.Errorf("New(%d): Get(%x) = %d, %t", c.asked, a, v, ok)
			}
			if s.Drop(a) {
				t.Errorf("New(%d): Drop(%x) = true", c.asked, a)
			}
		}
		if got := all(s); len(got) != 0 {
			t.Errorf("New(%d): All() = %v", c.asked, got)
		}
	}
}

func TestSizeIsHowManyArePut(t *testing.T) {
	for _, c := range sizes {
		s := slots.New[string](c.asked)
		put := 0
		for i := range 200 {
			if s.Put(api.Addr(i+1), "x") {
				put++
			}
			if s.Size() != c.want {
				t.Fatalf("New(%d): Size() = %d behind %d times Put, want %d", c.asked, s.Size(), i+1, c.want)
			}
		}
		if put != c.want || s.Len() != c.want {
			t.Errorf("New(%d): %d were put, Len() = %d, want %d", c.asked, put, s.Len(), c.want)
		}
	}
}

func TestLen(t *testing.T) {
	s := slots.New[int](3)
	for i, c := range []struct {
		put  bool
		a    api.Addr
		want int
	}{
		{true, 5, 1}, {true, 5, 1}, {true, 0, 2}, {false, 7, 2}, {true, 1 << 63, 3}, {true, 9, 3}, {true, 0, 3},
		{false, 9, 3}, {false, 0, 2}, {false, 0, 2}, {true, 9, 3}, {false, 5, 2}, {false, 9, 1}, {false, 1 << 63, 0}, {false, 5, 0},
	} {
		if c.put {
			s.Put(c.a, i)
		} else {
			s.Drop(c.a)
		}
		if got := s.Len(); got != c.want {
			t.Errorf("step %d: Len() = %d, want %d", i, got, c.want)
		}
	}
}

func TestTablesAreApart(t *testing.T) {
	one, other := slots.New[int](4), slots.New[int](4)
	one.Put(5, 1)
	one.Put(6, 2)
	other.Put(5, 3)
	if v, ok := one.Get(5); v != 1 || !ok {
		t.Errorf("Get(5) = %d, %t of the one", v, ok)
	}
	if _, ok := other.Get(6); ok || other.Len() != 1 {
		t.Errorf("what was put into the one is in the other")
	}
	if !one.Drop(5) || other.Len() != 1 {
		t.Errorf("what was taken out of the one is gone from the other")
	}
}

type record struct {
	name string
	list [3]int
}

// checkValues puts two values in turn, and asks for them, and for what isn't there.
func checkValues[V any](t *testing.T, kind string, one, two V, same func(a, b V) bool) {
	t.Helper()
	var zero V
	want := func(s *slots.Table[V], a api.Addr, v V, there bool) {
		t.Helper()
		if got, ok := s.Get(a); !same(got, v) || ok != there {
			t.Errorf("%s: Get(%d) = %v, %t, want %v, %t", kind, a, got, ok, v, there)
		}
	}
	s := slots.New[V](3)
	want(s, 1, zero, false)
	s.Put(1, one)
	s.Put(2, two)
	want(s, 1, one, true)
	want(s, 2, two, true)
	want(s, 3, zero, false)
	s.Put(1, two)
	s.Put(3, zero)
	want(s, 1, two, true)
	want(s, 2, two, true)
	want(s, 3, zero, true)
	want(s, 4, zero, false)
	var got []V
	for _, v := range s.All() {
		got = append(got, v)
	}
	if !slices.EqualFunc(got, []V{two, two, zero}, same) {
		t.Errorf("%s: All() = %v", kind, got)
	}
	s.Drop(1)
	want(s, 1, zero, false)
	s.Put(2, one)
	want(s, 2, one, true)
	s.Drop(3)
	want(s, 3, zero, false)
	want(slots.New[V](0), 1, zero, false)
}

func same[V comparable](a, b V) bool { return a == b }

func TestValuesOfSeveralTypes(t *testing.T) {
	checkValues(t, "int", 7, -7, same)
	checkValues(t, "bool", true, true, same)
	checkValues(t, "string", "one", "two", same)
	checkValues(t, "float64", 1.5, -2.5, same)
	checkValues(t, "an address", api.Broadcast, api.Addr(0), same)
	checkValues(t, "a struct", record{"one", [3]int{1, 2, 3}}, record{"two", [3]int{3, 2, 1}}, same)
	checkValues(t, "a struct of nothing", struct{}{}, struct{}{}, same)
	checkValues(t, "an array", [4]uint8{1, 2, 3, 4}, [4]uint8{4}, same)
	checkValues(t, "a pointer", new(int), new(int), same)
	checkValues(t, "any", any(1), any("two"), same)
	checkValues(t, "an error", errors.New("one"), errors.New("two"), same)
	checkValues(t, "a channel", make(chan int), make(chan int), same)
	checkValues(t, "a list", []byte{1, 2}, []byte{3}, func(a, b []byte) bool {
		return slices.Equal(a, b) && (a == nil) == (b == nil)
	})
	checkValues(t, "a function", func() int { return 1 }, func() int { return 2 }, func(a, b func() int) bool {
		return (a == nil) == (b == nil) && (a == nil || a() == b())
	})
	checkValues(t, "a table", slots.New[int](1), slots.New[int](2), same)
}

// 7.2: Put and Drop.

func TestExample(t *testing.T) {
	s := slots.New[string](1)
	if !s.Put(5, "a") || s.Put(6, "b") || !s.Put(5, "c") {
		t.Errorf("Put of 5, 6 and 5 isn't true, false and true")
	}
	if v, ok := s.Get(5); v != "c" || !ok {
		t.Errorf("Get(5) = %q, %t", v, ok)
	}
	if v, ok := s.Get(6); v != "" || ok {
		t.Errorf("Get(6) = %q, %t", v, ok)
	}
}

// TestPutAndDropAtEachFilling asks of tables that are filled with each number
// of addresses for one that is there, and for one that isn't.
func TestPutAndDropAtEachFilling(t *testing.T) {
	for _, size := range []int{0, 1, 2, 3, 5, 63, 64} {
		pool := everywhere(max(size, 1), 2)
		for many := range size + 1 {
			fill := func() *both {
				x := newBoth(size)
				for i, a := range pool[:many] {
					x.put(t, a, i+1)
				}
				return x
			}
			for _, a := range []api.Addr{pool[0], pool[many/2], pool[max(many-1, 0)], pool[many], pool[len(pool)-1]} {
				x := fill()
				x.put(t, a, 1000)
				x.check(t, pool)
				x.drop(t, a)
				x.check(t, pool)
				x = fill()
				x.drop(t, a)
				x.check(t, pool)
				x.drop(t, a)
				x.check(t, pool)
				x.put(t, a, 2000)
				x.check(t, pool)
			}
		}
	}
}

func TestPutBehindWhatItHad(t *testing.T) {
	s := slots.New[int](2)
	for v := range 100 {
		if !s.Put(5, v) || !s.Put(6, -v) {
			t.Fatalf("Put of one that is there = false")
		}
		if s.Put(7, v) {
			t.Fatalf("Put of a third one = true")
		}
		if got, ok := s.Get(5); got != v || !ok {
			t.Fatalf("Get(5) = %d, %t, want %d", got, ok, v)
		}
		if got, ok := s.Get(6); got != -v || !ok {
			t.Fatalf("Get(6) = %d, %t, want %d", got, ok, -v)
		}
		if s.Len() != 2 {
			t.Fatalf("Len() = %d", s.Len())
		}
	}
}

// TestInOnePlaceAtMost puts anew one that had to pass others, when a place
// nearer to where it is looked for is open.
func TestInOnePlaceAtMost(t *testing.T) {
	for _, size := range []int{3, 4, 5, 63, 64} {
		for first := range size {
			list := at(first, size, 3)
			for _, gone := range []int{0, 1} {
				x := newBoth(size)
				for i, a := range list {
					x.put(t, a, i+1)
				}
				x.drop(t, list[gone])
				x.put(t, list[2], 30)
				x.check(t, list)
				x.drop(t, list[2])
				x.check(t, list)
			}
		}
	}
}

func TestOddNumbers(t *testing.T) {
	x := newBoth(len(odd))
	asked := append([]api.Addr{258, 1, 1<<48 | 1}, odd...)
	x.check(t, asked)
	for i, a := range odd {
		x.put(t, a, i-3)
		x.check(t, asked)
	}
	x.put(t, 258, 99)
	x.check(t, asked)
	for i, a := range odd {
		x.put(t, a, 100*i)
		x.check(t, asked)
	}
	for _, a := range odd {
		x.drop(t, a)
		x.check(t, asked)
		x.drop(t, a)
		x.check(t, asked)
	}
}

func TestZeroIsAnAddressLikeOthers(t *testing.T) {
	for _, size := range []int{1, 2, 3, 64} {
		s := slots.New[int](size)
		if s.Drop(0) || s.Len() != 0 {
			t.Errorf("of %d places: 0 is there at first", size)
		}
		if !s.Put(0, 0) || s.Len() != 1 {
			t.Errorf("of %d places: Put(0, 0)", size)
		}
		if v, ok := s.Get(0); v != 0 || !ok {
			t.Errorf("of %d places: Get(0) = %d, %t", size, v, ok)
		}
		if got := all(s); !slices.Equal(got, []pair{{0, 0}}) {
			t.Errorf("of %d places: All() = %v", size, got)
		}
		if !s.Drop(0) || s.Drop(0) || s.Len() != 0 {
			t.Errorf("of %d places: Drop(0)", size)
		}
	}
}

// TestNumbersThatPartAbove48BitsOnly fills tables of each size with numbers
// that are looked for at one place.
func TestNumbersThatPartAbove48BitsOnly(t *testing.T) {
	for size := range api.MaxTable + 1 {
		x := newBoth(size)
		list := alike(size + 1)
		for i, a := range list {
			x.put(t, a, i)
		}
		x.check(t, list)
		for i := range list {
			x.drop(t, list[i*7%len(list)])
			x.check(t, list)
		}
	}
}

// 7.2: found again when others are taken out, in whatever order.

// checkEachOrder puts the addresses, then takes them out in each order.
func checkEachOrder(t *testing.T, size int, list []api.Addr) {
	t.Helper()
	orders(len(list), func(order []int) {
		x := newBoth(size)
		for i, a := range list {
			x.put(t, a, i+1)
		}
		for _, i := range order {
			x.drop(t, list[i])
			x.check(t, list)
		}
	})
}

func TestThoseLookedForAtTheSamePlace(t *testing.T) {
	for _, size := range []int{5, 6, 7, 64} {
		for _, first := range []int{0, 1, size / 2, size - 2, size - 1} {
			checkEachOrder(t, size, at(first, size, 5))
		}
	}
	checkEachOrder(t, 6, at(3, 6, 6))
	checkEachOrder(t, 6, alike(6))
}

// TestEachWayToLie goes through all first places that the addresses of small
// tables can have, full ones and such with an open place.
func TestEachWayToLie(t *testing.T) {
	for size := 1; size <= 4; size++ {
		for many := range size + 1 {
			lie := make([]int, many)
			for {
				checkEachOrder(t, size, lying(lie, size))
				if !turn(lie, size) {
					break
				}
			}
		}
	}
}

// lying answers unlike addresses, each with the first place that is told of it.
func lying(lie []int, size int) []api.Addr {
	var list []api.Addr
	for i, first := range lie {
		list = append(list, at(first, size, i+1)[i])
	}
	return list
}

// turn turns numbers below n on, as a counter's digits; false: behind the last ones.
func turn(digits []int, n int) bool {
	for i := range digits {
		if digits[i]++; digits[i] < n {
			return true
		}
		digits[i] = 0
	}
	return false
}

// TestThoseWhosePlaceWasTaken puts rows of neighbours, over the end of the
// table too, so that each takes another one's place.
func TestThoseWhosePlaceWasTaken(t *testing.T) {
	for _, size := range []int{5, 6, 64} {
		for _, first := range []int{0, 1, size - 3, size - 2, size - 1} {
			here := at(first, size, 3)
			next := at((first+1)%size, size, 2)
			checkEachOrder(t, size, []api.Addr{here[0], here[1], next[0], here[2], next[1]})
			checkEachOrder(t, size, []api.Addr{next[0], here[0], here[1], next[1], here[2]})
			far := at((first+2)%size, size, 1)
			checkEachOrder(t, size, []api.Addr{far[0], here[0], next[0], here[1], next[1]})
		}
	}
}

// TestEachRowOfPutAndDrop does to small tables whatever can be done to them in
// so many steps: each takes one out that is there, or puts one that isn't.
func TestEachRowOfPutAndDrop(t *testing.T) {
	for _, c := range []struct{ size, each, steps int }{{1, 2, 8}, {2, 2, 7}, {3, 1, 8}, {3, 2, 6}} {
		pool := everywhere(c.size, c.each)
		row := make([]int, c.steps)
		for {
			x := newBoth(c.size)
			for step, i := range row {
				if x.m.find(pool[i]) >= 0 {
					x.drop(t, pool[i])
				} else {
					x.put(t, pool[i], step+1)
				}
			}
			x.check(t, pool)
			if !turn(row, len(pool)) {
				break
			}
		}
	}
}

// 7.3: All.

func TestAllOfAnEmptyTable(t *testing.T) {
	for _, size := range []int{-1, 0, 1, 64} {
		s := slots.New[int](size)
		seq := s.All()
		if seq == nil {
			t.Fatalf("of %d places: All() = nil", size)
		}
		for a, v := range seq {
			t.Errorf("of %d places: All() has %x, %d", size, a, v)
		}
	}
}

func TestAllRises(t *testing.T) {
	order := []api.Addr{
		0, 1, 2, 255, 256, 258, 1 << 31, 1<<32 - 1, 1 << 32, 1<<40 - 1, 1 << 40, 1<<47 - 1, 1 << 47, 1<<48 - 1,
		1 << 48, 1<<48 | 258, 1<<62 - 1, 1<<63 - 1, 1 << 63, 1<<63 | 258, math.MaxUint64 - 1, math.MaxUint64,
	}
	want := make([]pair, len(order))
	for i, a := range order {
		want[i] = pair{a, 1000 - i}
	}
	draw := rand.New(rand.NewPCG(7, 3))
	for _, size := range []int{len(order), len(order) + 1, 64} {
		for range 50 {
			s := slots.New[int](size)
			for _, i := range draw.Perm(len(want)) {
				s.Put(want[i].a, want[i].v)
			}
			if got := all(s); !slices.Equal(got, want) {
				t.Fatalf("of %d places: All() = %v, want %v", size, got, want)
			}
		}
	}
}

func TestAllOfAFullTable(t *testing.T) {
	for size := range api.MaxTable + 1 {
		x, list := filled(t, size)
		x.check(t, list)
		y := newBoth(size)
		list = alike(size)
		for i, a := range list {
			y.put(t, a, -i)
		}
		y.check(t, list)
	}
}

func TestAllIsBegunTwice(t *testing.T) {
	x, _ := filled(t, 20)
	want := x.m.rising()
	seq := x.t.All()
	for range 2 {
		var got []pair
		for a, v := range seq {
			got = append(got, pair{a, v})
		}
		if !slices.Equal(got, want) {
			t.Errorf("All() = %v, want %v", got, want)
		}
	}
	outer := 0
	for a, v := range seq {
		if want[outer] != (pair{a, v}) {
			t.Errorf("place %d of All() = %x, %d, want %v", outer, a, v, want[outer])
		}
		if got := all(x.t); !slices.Equal(got, want) {
			t.Errorf("All() begun within it = %v, want %v", got, want)
		}
		outer++
	}
	if outer != len(want) {
		t.Errorf("All() hands out %d, want %d", outer, len(want))
	}
}

// TestAllAsItIsWhenOneBegins puts and drops between the call and each time
// that one begins to go through what it answered.
func TestAllAsItIsWhenOneBegins(t *testing.T) {
	x := newBoth(4)
	seq := x.t.All()
	through := func() []pair {
		var list []pair
		for a, v := range seq {
			list = append(list, pair{a, v})
		}
		return list
	}
	for i, do := range []func(){
		func() {},
		func() { x.put(t, 30, 1); x.put(t, 10, 2) },
		func() { x.put(t, 10, 3) },
		func() { x.put(t, 20, 4); x.put(t, 40, 5); x.put(t, 50, 6) },
		func() { x.drop(t, 30) },
		func() { x.put(t, 5, 7); x.drop(t, 10) },
		func() { x.drop(t, 5); x.drop(t, 20); x.drop(t, 40) },
	} {
		do()
		if got, want := through(), x.m.rising(); !slices.Equal(got, want) {
			t.Errorf("time %d: All() = %v, want %v", i, got, want)
		}
	}
}

func TestAllStoppedBehindEachNumberOfSteps(t *testing.T) {
	for _, size := range []int{1, 2, 3, 20, 64} {
		x, list := filled(t, size)
		want := x.m.rising()
		for steps := 1; steps <= size; steps++ {
			var got []pair
			for a, v := range x.t.All() {
				got = append(got, pair{a, v})
				if len(got) == steps {
					break
				}
			}
			if !slices.Equal(got, want[:steps]) {
				t.Errorf("of %d, the first %d of All() = %v, want %v", size, steps, got, want[:steps])
			}
			x.check(t, list)
		}
	}
}

// TestAllCallsNoMoreOnceItIsStopped hands All a function of its own: a range
// loop would panic where this one counts.
func TestAllCallsNoMoreOnceItIsStopped(t *testing.T) {
	x, _ := filled(t, 10)
	for steps := 1; steps <= 10; steps++ {
		calls := 0
		x.t.All()(func(api.Addr, int) bool {
			calls++
			return calls < steps
		})
		if calls != steps {
			t.Errorf("stopped behind %d steps All() went %d", steps, calls)
		}
	}
}

// 7.4: a full table.

func TestFullTable(t *testing.T) {
	for size := range api.MaxTable + 1 {
		x, list := filled(t, size)
		news := append([]api.Addr{1, 5, 11, 641, 650}, odd...)
		asked := append(slices.Clone(list), news...)
		for _, a := range news {
			if x.t.Put(a, 77) {
				t.Fatalf("a full table of %d takes %x", size, a)
			}
			x.check(t, asked)
		}
		for i, a := range list {
			x.put(t, a, -i)
			x.check(t, asked)
			if x.t.Put(1, 77) {
				t.Fatalf("a full table of %d takes 1", size)
			}
		}
		for i, a := range list {
			x.drop(t, a)
			x.put(t, news[i%len(news)], i)
			x.put(t, 3, 77)
			x.check(t, asked)
			x.drop(t, news[i%len(news)])
			x.put(t, a, i)
			x.check(t, asked)
		}
	}
}

func TestTableOfNoPlaces(t *testing.T) {
	for _, asked := range []int{math.MinInt, -64, -1, 0} {
		x := newBoth(0)
		x.t = slots.New[int](asked)
		for _, a := range append([]api.Addr{1, 2, 258}, odd...) {
			x.put(t, a, 5)
			x.drop(t, a)
			x.check(t, []api.Addr{a})
		}
	}
}

// 7.1 to 7.4: long rows, drawn at random, always the same ones.

// pools are addresses to draw from, for a table of that size: few, more than
// there are places, all at one place, all about the end, and any.
func pools(size int, draw *rand.Rand) map[string][]api.Addr {
	n := max(size, 1)
	about := append(at(n-1, n, n/2+1), at(0, n, n/2+1)...)
	anyOnes := slices.Clone(odd)
	for range n {
		anyOnes = append(anyOnes, api.Addr(draw.Uint64()))
	}
	return map[string][]api.Addr{
		"few":               everywhere(n, 1)[:(n+1)/2],
		"of each place one": everywhere(n, 1),
		"of each place two": everywhere(n, 2),
		"at the first":      at(0, n, n+2),
		"about the end":     about,
		"alike":             alike(n + 2),
		"any":               anyOnes,
	}
}

func TestLongRows(t *testing.T) {
	for _, size := range []int{0, 1, 2, 3, 4, 5, 7, 8, 9, 16, 31, 63, 64} {
		draw := rand.New(rand.NewPCG(7, uint64(size)))
		for name, pool := range pools(size, draw) {
			t.Run(fmt.Sprintf("%d places, %s", size, name), func(t *testing.T) {
				longRow(t, size, pool, rand.New(rand.NewPCG(uint64(size), uint64(len(name)))))
			})
		}
	}
}

// longRow puts and drops addresses of the pool, mostly the one and mostly the
// other by turns, so that the table fills and empties.
func longRow(t *testing.T, size int, pool []api.Addr, draw *rand.Rand) {
	x := newBoth(size)
	for step := range 1500 {
		a := pool[draw.IntN(len(pool))]
		if draw.IntN(10) < 3+5*(step/100%2) {
			x.put(t, a, step+1)
		} else {
			x.drop(t, a)
		}
		x.check(t, pool)
	}
}

// FuzzTable reads a size, then steps: of each byte whether it puts or drops,
// and of which address.
func FuzzTable(f *testing.F) {
	f.Add([]byte{3, 1, 2, 3, 129, 4})
	f.Add([]byte{64, 0, 16, 32, 128, 144, 0})
	f.Fuzz(func(t *testing.T, b []byte) {
		if len(b) == 0 {
			return
		}
		size := int(b[0]) % (api.MaxTable + 1)
		x := newBoth(size)
		var pool []api.Addr
		for low := range api.Addr(16) {
			for high := range api.Addr(8) {
				pool = append(pool, high<<48|low)
			}
		}
		for step, c := range b[1:] {
			if c < 128 {
				x.put(t, pool[c], step)
			} else {
				x.drop(t, pool[c-128])
			}
			x.check(t, pool)
		}
	})
}
