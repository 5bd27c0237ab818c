package rank_test

import (
	"fmt"
	"math"
	"math/rand/v2"
	"slices"
	"testing"

	"treeline/api"
	"treeline/rank"
)

// The edges of a telling's numbers: the ends, and where numbers that are
// held as shorter ones, or with a sign, would go wrong.
var (
	bridges = []api.BridgeId{0, 1, 1<<32 - 1, 1 << 32, 1<<48 - 1, 1 << 48, 1<<63 - 1, 1 << 63, math.MaxUint64 - 1, math.MaxUint64}
	costs   = []uint32{0, 1, 1<<16 - 1, 1 << 16, 1<<31 - 1, 1 << 31, math.MaxUint32 - 1, math.MaxUint32}
	ports   = []api.PortId{0, 1, 1<<8 - 1, 1 << 8, 1<<15 - 1, 1 << 15, math.MaxUint16 - 1, math.MaxUint16}
)

// plain is what Compare should answer, number by number.
func plain(a, b rank.Vector) int {
	if a.Root != b.Root {
		return sign(a.Root < b.Root)
	}
	if a.Cost != b.Cost {
		return sign(a.Cost < b.Cost)
	}
	if a.Bridge != b.Bridge {
		return sign(a.Bridge < b.Bridge)
	}
	if a.Port != b.Port {
		return sign(a.Port < b.Port)
	}
	return 0
}

func sign(less bool) int {
	if less {
		return -1
	}
	return 1
}

// plainSupersedes is what Supersedes should answer.
func plainSupersedes(x, held rank.Vector, own api.BridgeId) bool {
	if x.Root != held.Root {
		return x.Root < held.Root
	}
	if x.Cost != held.Cost {
		return x.Cost < held.Cost
	}
	if x.Bridge != held.Bridge {
		return x.Bridge < held.Bridge
	}
	if x.Bridge != own {
		return true
	}
	return !(x.Port > held.Port)
}

// plainFar is what Far should answer, by a sum that has room.
func plainFar(a, b uint32) uint32 {
	if sum := uint64(a) + uint64(b); sum <= 4294967295 {
		return uint32(sum)
	}
	return 4294967295
}

// checkCompare holds two against each other, both ways round.
func checkCompare(t *testing.T, a, b rank.Vector, want int) {
	t.Helper()
	hadA, hadB := a, b
	if got := rank.Compare(a, b); got != want {
		t.Fatalf("Compare(%v, %v) = %d, want %d", a, b, got, want)
	}
	if got := rank.Compare(b, a); got != -want {
		t.Fatalf("Compare(%v, %v) = %d, want %d", b, a, got, -want)
	}
	checkKeeps(t, a, b, want <= 0)
	checkKeeps(t, b, a, want >= 0)
	if a != hadA || b != hadB {
		t.Fatalf("Compare or Keeps changes %v, %v to %v, %v", hadA, hadB, a, b)
	}
}

func checkKeeps(t *testing.T, own, held rank.Vector, want bool) {
	t.Helper()
	if got := rank.Keeps(own, held); got != want {
		t.Fatalf("Keeps(%v, %v) = %t, want %t", own, held, got, want)
	}
}

func checkSupersedes(t *testing.T, x, held rank.Vector, own api.BridgeId, want bool) {
	t.Helper()
	hadX, hadHeld := x, held
	if got := rank.Supersedes(x, held, own); got != want {
		t.Fatalf("Supersedes(%v, %v, %d) = %t, want %t", x, held, own, got, want)
	}
	if x != hadX || held != hadHeld {
		t.Fatalf("Supersedes changes %v, %v to %v, %v", hadX, hadHeld, x, held)
	}
}

func checkFar(t *testing.T, a, b, want uint32) {
	t.Helper()
	if got := rank.Far(a, b); got != want {
		t.Fatalf("Far(%d, %d) = %d, want %d", a, b, got, want)
	}
	if got := rank.Far(b, a); got != want {
		t.Fatalf("Far(%d, %d) = %d, want %d", b, a, got, want)
	}
}

func checkVia(t *testing.T, v rank.Vector, cost uint32, want rank.Vector) {
	t.Helper()
	had := v
	if got := rank.Via(v, cost); got != want {
		t.Fatalf("Via(%v, %d) = %v, want %v", v, cost, got, want)
	}
	if v != had {
		t.Fatalf("Via changes %v to %v", had, v)
	}
}

// edges answers tellings of some edges of each number, each with each.
func edges() []rank.Vector {
	var out []rank.Vector
	for _, root := range []api.BridgeId{0, 1 << 63, math.MaxUint64} {
		for _, cost := range []uint32{0, 1<<31 - 1, 1 << 31, math.MaxUint32} {
			for _, bridge := range []api.BridgeId{0, 1<<48 - 1, 1 << 48, math.MaxUint64} {
				for _, port := range []api.PortId{0, 1<<15 - 1, 1 << 15, math.MaxUint16} {
					out = append(out, rank.Vector{Root: root, Cost: cost, Bridge: bridge, Port: port})
				}
			}
		}
	}
	return out
}

// 10.1: Compare, and Keeps with it.

func TestCompareOfThoseAlike(t *testing.T) {
	for _, v := range edges() {
		checkCompare(t, v, v, 0)
	}
	checkCompare(t, rank.Vector{}, rank.Vector{}, 0)
	checkCompare(t, rank.Vector{Root: 4, Cost: 3, Bridge: 2, Port: 1}, rank.Vector{Root: 4, Cost: 3, Bridge: 2, Port: 1}, 0)
}

// TestCompareOfOneNumber lets two differ in one number alone, by one: at 0,
// at the greatest number, and about the edges between.
func TestCompareOfOneNumber(t *testing.T) {
	for _, v := range edges() {
		for _, less := range bridges {
			if less == math.MaxUint64 {
				continue
			}
			a, b := v, v
			a.Root, b.Root = less, less+1
			checkCompare(t, a, b, -1)
			a, b = v, v
			a.Bridge, b.Bridge = less, less+1
			checkCompare(t, a, b, -1)
		}
		for _, less := range costs {
			if less == math.MaxUint32 {
				continue
			}
			a, b := v, v
			a.Cost, b.Cost = less, less+1
			checkCompare(t, a, b, -1)
		}
		for _, less := range ports {
			if less == math.MaxUint16 {
				continue
			}
			a, b := v, v
			a.Port, b.Port = less, less+1
			checkCompare(t, a, b, -1)
		}
	}
}

// TestCompareOfTheEnds lets two differ in one number alone, as far as may be.
func TestCompareOfTheEnds(t *testing.T) {
	for _, v := range edges() {
		a, b := v, v
		a.Root, b.Root = 0, math.MaxUint64
		checkCompare(t, a, b, -1)
		a, b = v, v
		a.Cost, b.Cost = 0, math.MaxUint32
		checkCompare(t, a, b, -1)
		a, b = v, v
		a.Bridge, b.Bridge = 0, math.MaxUint64
		checkCompare(t, a, b, -1)
		a, b = v, v
		a.Port, b.Port = 0, math.MaxUint16
		checkCompare(t, a, b, -1)
	}
}

// TestCompareOfEachBit lets two differ in one bit of one number alone.
func TestCompareOfEachBit(t *testing.T) {
	v := rank.Vector{Root: 0x5555555555555555, Cost: 0x55555555, Bridge: 0x5555555555555555, Port: 0x5555}
	for bit := range 64 {
		w := v
		w.Root ^= 1 << bit
		checkCompare(t, v, w, sign(v.Root < w.Root))
		w = v
		w.Bridge ^= 1 << bit
		checkCompare(t, v, w, sign(v.Bridge < w.Bridge))
	}
	for bit := range 32 {
		w := v
		w.Cost ^= 1 << bit
		checkCompare(t, v, w, sign(v.Cost < w.Cost))
	}
	for bit := range 16 {
		w := v
		w.Port ^= 1 << bit
		checkCompare(t, v, w, sign(v.Port < w.Port))
	}
}

// TestCompareOfWhatComesFirst lets a number say one thing, and some behind it the other.
func TestCompareOfWhatComesFirst(t *testing.T) {
	for _, c := range []struct{ better, worse rank.Vector }{
		{rank.Vector{Root: 0, Cost: 1}, rank.Vector{Root: 1, Cost: 0}},
		{rank.Vector{Root: 0, Bridge: 1}, rank.Vector{Root: 1, Bridge: 0}},
		{rank.Vector{Root: 0, Port: 1}, rank.Vector{Root: 1, Port: 0}},
		{rank.Vector{Cost: 0, Bridge: 1}, rank.Vector{Cost: 1, Bridge: 0}},
		{rank.Vector{Cost: 0, Port: 1}, rank.Vector{Cost: 1, Port: 0}},
		{rank.Vector{Bridge: 0, Port: 1}, rank.Vector{Bridge: 1, Port: 0}},
		{rank.Vector{Root: 5, Cost: 9, Bridge: 9, Port: 9}, rank.Vector{Root: 6, Cost: 1, Bridge: 1, Port: 1}},
		{rank.Vector{Root: 5, Cost: 5, Bridge: 9, Port: 9}, rank.Vector{Root: 5, Cost: 6, Bridge: 1, Port: 1}},
		{rank.Vector{Root: 5, Cost: 1, Bridge: 9, Port: 9}, rank.Vector{Root: 6, Cost: 9, Bridge: 1, Port: 1}},
		{rank.Vector{Root: 5, Cost: 1, Bridge: 1, Port: 9}, rank.Vector{Root: 6, Cost: 9, Bridge: 9, Port: 1}},
		{rank.Vector{Root: 0, Cost: math.MaxUint32, Bridge: math.MaxUint64, Port: math.MaxUint16}, rank.Vector{Root: 1}},
		{rank.Vector{Cost: 0, Bridge: math.MaxUint64, Port: math.MaxUint16}, rank.Vector{Cost: 1}},
		{rank.Vector{Bridge: 0, Port: math.MaxUint16}, rank.Vector{Bridge: 1}},
		{rank.Vector{Root: math.MaxUint64 - 1, Cost: math.MaxUint32, Bridge: math.MaxUint64, Port: math.MaxUint16}, rank.Vector{Root: math.MaxUint64}},
		{rank.Vector{Root: 7, Cost: math.MaxUint32 - 1, Bridge: math.MaxUint64, Port: math.MaxUint16}, rank.Vector{Root: 7, Cost: math.MaxUint32}},
		{rank.Vector{Root: 7, Cost: 7, Bridge: math.MaxUint64 - 1, Port: math.MaxUint16}, rank.Vector{Root: 7, Cost: 7, Bridge: math.MaxUint64}},
	} {
		checkCompare(t, c.better, c.worse, -1)
	}
}

// TestCompareOfAllEdges holds each against each.
func TestCompareOfAllEdges(t *testing.T) {
	all := edges()
	for _, a := range all {
		for _, b := range all {
			checkCompare(t, a, b, plain(a, b))
		}
	}
}

func TestKeeps(t *testing.T) {
	held := rank.Vector{Root: 100, Cost: 20, Bridge: 300, Port: 40}
	for _, c := range []struct {
		own  rank.Vector
		want bool
	}{
		{held, true},
		{rank.Vector{Root: 99, Cost: 20, Bridge: 300, Port: 40}, true},
		{rank.Vector{Root: 100, Cost: 19, Bridge: 300, Port: 40}, true},
		{rank.Vector{Root: 100, Cost: 20, Bridge: 299, Port: 40}, true},
		{rank.Vector{Root: 100, Cost: 20, Bridge: 300, Port: 39}, true},
		{rank.Vector{Root: 101, Cost: 20, Bridge: 300, Port: 40}, false},
		{rank.Vector{Root: 100, Cost: 21, Bridge: 300, Port: 40}, false},
		{rank.Vector{Root: 100, Cost: 20, Bridge: 301, Port: 40}, false},
		{rank.Vector{Root: 100, Cost: 20, Bridge: 300, Port: 41}, false},
		{rank.Vector{Root: 99, Cost: 21, Bridge: 301, Port: 41}, true},
		{rank.Vector{Root: 101, Cost: 19, Bridge: 299, Port: 39}, false},
		{rank.Vector{}, true},
		{rank.Vector{Root: math.MaxUint64, Cost: math.MaxUint32, Bridge: math.MaxUint64, Port: math.MaxUint16}, false},
	} {
		checkKeeps(t, c.own, held, c.want)
	}
}

// 10.1: Of.

func TestOf(t *testing.T) {
	full := api.Bpdu{Change: true, Ack: true, Root: 1, Cost: 2, Bridge: 3, Port: 4, Age: 5, MaxAge: 6, Hello: 7, Delay: 8}
	tcn := full
	tcn.Tcn, tcn.Change, tcn.Ack = true, false, false
	most := api.Bpdu{Root: math.MaxUint64, Cost: math.MaxUint32, Bridge: math.MaxUint64 - 1, Port: math.MaxUint16}
	for _, c := range []struct {
		x    api.Bpdu
		want rank.Vector
	}{
		{full, rank.Vector{Root: 1, Cost: 2, Bridge: 3, Port: 4}},
		{tcn, rank.Vector{Root: 1, Cost: 2, Bridge: 3, Port: 4}},
		{most, rank.Vector{Root: math.MaxUint64, Cost: math.MaxUint32, Bridge: math.MaxUint64 - 1, Port: math.MaxUint16}},
		{api.Bpdu{}, rank.Vector{}},
		{api.Bpdu{Tcn: true}, rank.Vector{}},
		{api.Bpdu{Change: true, Ack: true, Age: 65535, MaxAge: 65534, Hello: 65533, Delay: 65532}, rank.Vector{}},
		{api.Bpdu{Root: 9}, rank.Vector{Root: 9}},
		{api.Bpdu{Cost: 9}, rank.Vector{Cost: 9}},
		{api.Bpdu{Bridge: 9}, rank.Vector{Bridge: 9}},
		{api.Bpdu{Port: 9}, rank.Vector{Port: 9}},
	} {
		had := c.x
		if got := rank.Of(c.x); got != c.want {
			t.Fatalf("Of(%v) = %v, want %v", c.x, got, c.want)
		}
		if c.x != had {
			t.Fatalf("Of changes %v to %v", had, c.x)
		}
	}
}

// TestOfEachEdge hands in each edge of each number, with other fields that are another number.
func TestOfEachEdge(t *testing.T) {
	for _, v := range edges() {
		for _, tcn := range []bool{false, true} {
			x := api.Bpdu{Tcn: tcn, Change: true, Root: v.Root, Cost: v.Cost, Bridge: v.Bridge, Port: v.Port, Age: 11, MaxAge: 12, Hello: 13, Delay: 14}
			if got := rank.Of(x); got != v {
				t.Fatalf("Of(%v) = %v, want %v", x, got, v)
			}
		}
	}
}

// 10.1: Far.

func TestFar(t *testing.T) {
	for _, c := range []struct{ a, b, want uint32 }{
		{0, 0, 0}, {0, 1, 1}, {1, 1, 2}, {5, 19, 24}, {65535, 1, 65536}, {200000, 19, 200019},
		{4294967294, 0, 4294967294}, {4294967293, 1, 4294967294}, {2147483647, 2147483647, 4294967294},
		{4294967295, 0, 4294967295}, {4294967294, 1, 4294967295}, {2147483647, 2147483648, 4294967295},
		{4294967295, 1, 4294967295}, {4294967294, 2, 4294967295}, {2147483648, 2147483648, 4294967295},
		{4294967295, 2, 4294967295}, {4294967294, 3, 4294967295}, {2147483648, 2147483649, 4294967295},
		{4294967295, 4294967294, 4294967295}, {4294967294, 4294967294, 4294967295}, {4294967295, 4294967295, 4294967295},
	} {
		checkFar(t, c.a, c.b, c.want)
	}
}

// TestFarAboutTheGreatest draws a first number, and lets the sum come just to
// the greatest one, short of it and beyond it.
func TestFarAboutTheGreatest(t *testing.T) {
	draw := rand.New(rand.NewPCG(10, 1))
	for range 2000 {
		a := 1000 + draw.Uint32N(math.MaxUint32-2000)
		rest := math.MaxUint32 - a
		for by := range uint32(300) {
			checkFar(t, a, rest-by, math.MaxUint32-by)
			checkFar(t, a, rest+by, math.MaxUint32)
		}
	}
}

func TestFarOfAllEdges(t *testing.T) {
	for _, a := range costs {
		for _, b := range costs {
			checkFar(t, a, b, plainFar(a, b))
		}
	}
}

// 10.1: Via.

func TestVia(t *testing.T) {
	for _, c := range []struct{ cost, by, want uint32 }{
		{0, 0, 0}, {0, 1, 1}, {5, 0, 5}, {5, 19, 24},
		{0, math.MaxUint32, math.MaxUint32},
		{math.MaxUint32 - 2, 1, math.MaxUint32 - 1}, {math.MaxUint32 - 1, 1, math.MaxUint32}, {math.MaxUint32 - 1, 2, math.MaxUint32},
		{math.MaxUint32, 0, math.MaxUint32}, {math.MaxUint32, 1, math.MaxUint32}, {math.MaxUint32, 19, math.MaxUint32},
		{math.MaxUint32, math.MaxUint32, math.MaxUint32},
	} {
		for _, v := range edges() {
			v.Cost = c.cost
			want := v
			want.Cost = c.want
			checkVia(t, v, c.by, want)
		}
	}
	checkVia(t, rank.Vector{Root: 1, Cost: 5, Bridge: 2, Port: 3}, 19, rank.Vector{Root: 1, Cost: 24, Bridge: 2, Port: 3})
}

// 10.2: Supersedes.

// TestSupersedesByWhatIsBetter lets one of Root, Cost and Bridge be less or
// greater by one: whatever the Port is, whoever asks, and whatever comes behind.
func TestSupersedesByWhatIsBetter(t *testing.T) {
	for _, c := range []struct{ better, worse rank.Vector }{
		{rank.Vector{Root: 99, Cost: 20, Bridge: 300}, rank.Vector{Root: 100, Cost: 20, Bridge: 300}},
		{rank.Vector{Root: 100, Cost: 19, Bridge: 300}, rank.Vector{Root: 100, Cost: 20, Bridge: 300}},
		{rank.Vector{Root: 100, Cost: 20, Bridge: 299}, rank.Vector{Root: 100, Cost: 20, Bridge: 300}},
		{rank.Vector{Root: 99, Cost: 21, Bridge: 301}, rank.Vector{Root: 100, Cost: 20, Bridge: 300}},
		{rank.Vector{Root: 99, Cost: 21, Bridge: 299}, rank.Vector{Root: 100, Cost: 20, Bridge: 300}},
		{rank.Vector{Root: 100, Cost: 19, Bridge: 301}, rank.Vector{Root: 100, Cost: 20, Bridge: 300}},
		{rank.Vector{Root: 0, Cost: math.MaxUint32, Bridge: math.MaxUint64}, rank.Vector{Root: 1}},
		{rank.Vector{Root: 0, Cost: 0, Bridge: math.MaxUint64}, rank.Vector{Root: 0, Cost: 1}},
		{rank.Vector{}, rank.Vector{Bridge: 1}},
		{rank.Vector{Root: math.MaxUint64 - 1}, rank.Vector{Root: math.MaxUint64}},
		{rank.Vector{Cost: math.MaxUint32 - 1}, rank.Vector{Cost: math.MaxUint32}},
		{rank.Vector{Bridge: math.MaxUint64 - 1}, rank.Vector{Bridge: math.MaxUint64}},
	} {
		for _, one := range ports {
			for _, other := range ports {
				better, worse := c.better, c.worse
				better.Port, worse.Port = one, other
				for _, own := range []api.BridgeId{better.Bridge, worse.Bridge, better.Root, worse.Root, 7, 0, math.MaxUint64} {
					checkSupersedes(t, better, worse, own, true)
					checkSupersedes(t, worse, better, own, false)
				}
			}
		}
	}
}

// TestSupersedesOfThoseAlike lets Root, Cost and Bridge be alike: of another
// bridge's always, of the own one's unless the Port is greater.
func TestSupersedesOfThoseAlike(t *testing.T) {
	for _, v := range edges() {
		for _, port := range ports {
			held := v
			held.Port = port
			for _, by := range []int{-256, -1, 0, 1, 256} {
				told := int(port) + by
				if told < 0 || told > math.MaxUint16 {
					continue
				}
				x := v
				x.Port = api.PortId(told)
				checkSupersedes(t, x, held, v.Bridge, by <= 0)
				for _, own := range []api.BridgeId{v.Bridge + 1, v.Bridge - 1, v.Bridge ^ 1<<63, v.Bridge ^ 1<<48, v.Bridge ^ 1<<32} {
					checkSupersedes(t, x, held, own, true)
				}
			}
		}
	}
}

// TestSupersedesOfTheRoot has another bridge tell what the own one is root of:
// it is the teller that is held against the own one, not the root.
func TestSupersedesOfTheRoot(t *testing.T) {
	x := rank.Vector{Root: 5, Cost: 19, Bridge: 8, Port: 3}
	held := rank.Vector{Root: 5, Cost: 19, Bridge: 8, Port: 2}
	checkSupersedes(t, x, held, 5, true)
	checkSupersedes(t, x, held, 8, false)
	checkSupersedes(t, held, x, 8, true)
	checkSupersedes(t, rank.Vector{Root: 8, Bridge: 8, Port: 2}, rank.Vector{Root: 8, Bridge: 8, Port: 1}, 8, false)
	checkSupersedes(t, rank.Vector{Root: 8, Bridge: 8, Port: 1}, rank.Vector{Root: 8, Bridge: 8, Port: 1}, 8, true)
}

func TestSupersedesOfAllEdges(t *testing.T) {
	all := edges()
	for _, x := range all {
		for _, held := range all {
			for _, own := range []api.BridgeId{x.Bridge, held.Bridge, x.Root, 77} {
				checkSupersedes(t, x, held, own, plainSupersedes(x, held, own))
			}
		}
	}
}

// 10.3: the better one is an order; who is farther is never better.

// drawVector draws any telling.
func drawVector(draw *rand.Rand) rank.Vector {
	return rank.Vector{Root: api.BridgeId(draw.Uint64()), Cost: draw.Uint32(), Bridge: api.BridgeId(draw.Uint64()), Port: api.PortId(draw.Uint32())}
}

// near draws one that differs little from another one, or not at all.
func near(v rank.Vector, draw *rand.Rand) rank.Vector {
	for range draw.IntN(4) {
		by := draw.IntN(3) - 1
		switch draw.IntN(4) {
		case 0:
			v.Root += api.BridgeId(by)
		case 1:
			v.Cost += uint32(by)
		case 2:
			v.Bridge += api.BridgeId(by)
		default:
			v.Port += api.PortId(by)
		}
	}
	return v
}

// small draws one of few numbers, so that many are alike in some of them.
func small(draw *rand.Rand) rank.Vector {
	return rank.Vector{Root: api.BridgeId(draw.IntN(3)), Cost: uint32(draw.IntN(3)), Bridge: api.BridgeId(draw.IntN(3)), Port: api.PortId(draw.IntN(3))}
}

// edge draws each number from its edges.
func edge(draw *rand.Rand) rank.Vector {
	return rank.Vector{
		Root:   bridges[draw.IntN(len(bridges))],
		Cost:   costs[draw.IntN(len(costs))],
		Bridge: bridges[draw.IntN(len(bridges))],
		Port:   ports[draw.IntN(len(ports))],
	}
}

// drawThree draws three, of one of the kinds above.
func drawThree(kind int, draw *rand.Rand) (a, b, c rank.Vector) {
	switch kind {
	case 0:
		return drawVector(draw), drawVector(draw), drawVector(draw)
	case 1:
		a = drawVector(draw)
		return a, near(a, draw), near(a, draw)
	case 2:
		a = edge(draw)
		return a, near(a, draw), edge(draw)
	default:
		return small(draw), small(draw), small(draw)
	}
}

// checkOrder looks at what makes an order, by Compare's own answers alone.
func checkOrder(t *testing.T, a, b, c rank.Vector) {
	t.Helper()
	ab, ba, bc, ac := rank.Compare(a, b), rank.Compare(b, a), rank.Compare(b, c), rank.Compare(a, c)
	if ab < -1 || ab > 1 || ab != -ba || rank.Compare(a, a) != 0 {
		t.Fatalf("%v, %v: %d, the other way round %d", a, b, ab, ba)
	}
	if (ab == 0) != (a == b) {
		t.Fatalf("%v, %v: %d", a, b, ab)
	}
	if ab <= 0 && bc <= 0 && ac > 0 {
		t.Fatalf("%v, %v, %v: the first isn't worse than the second, nor that than the third, but than the third", a, b, c)
	}
	if ab <= 0 && bc <= 0 && ac != min(ab, bc) {
		t.Fatalf("%v, %v, %v: %d, %d, but %d", a, b, c, ab, bc, ac)
	}
}

func TestBetterIsAnOrder(t *testing.T) {
	draw := rand.New(rand.NewPCG(10, 3))
	for i := range 200000 {
		a, b, c := drawThree(i%4, draw)
		for _, l := range [][3]rank.Vector{{a, b, c}, {a, c, b}, {b, a, c}, {b, c, a}, {c, a, b}, {c, b, a}} {
			checkOrder(t, l[0], l[1], l[2])
		}
	}
}

// TestSortedRows sorts rows by Compare, and looks at them number by number.
func TestSortedRows(t *testing.T) {
	draw := rand.New(rand.NewPCG(10, 4))
	for kind := range 4 {
		var row []rank.Vector
		for range 3000 {
			a, b, c := drawThree(kind, draw)
			row = append(row, a, b, c)
		}
		slices.SortFunc(row, rank.Compare)
		for i := 1; i < len(row); i++ {
			if plain(row[i-1], row[i]) > 0 {
				t.Fatalf("sorted, %v stands ahead of %v", row[i-1], row[i])
			}
		}
	}
}

// checkFarther looks at one telling, and at it behind a port of some cost.
func checkFarther(t *testing.T, v rank.Vector, cost uint32) {
	t.Helper()
	far := rank.Via(v, cost)
	if far.Cost < v.Cost {
		t.Fatalf("Via(%v, %d) = %v is nearer", v, cost, far)
	}
	if rank.Compare(far, v) < 0 || !rank.Keeps(v, far) {
		t.Fatalf("Via(%v, %d) = %v is better", v, cost, far)
	}
	if (rank.Compare(far, v) == 0) != (cost == 0 || v.Cost == math.MaxUint32) {
		t.Fatalf("Via(%v, %d) = %v: %d", v, cost, far, rank.Compare(far, v))
	}
	if far != (rank.Vector{Root: v.Root, Cost: plainFar(v.Cost, cost), Bridge: v.Bridge, Port: v.Port}) {
		t.Fatalf("Via(%v, %d) = %v", v, cost, far)
	}
}

func TestFartherIsNeverBetter(t *testing.T) {
	for _, v := range edges() {
		for _, cost := range costs {
			checkFarther(t, v, cost)
		}
	}
	draw := rand.New(rand.NewPCG(10, 5))
	for i := range 100000 {
		a, b, _ := drawThree(i%4, draw)
		checkFarther(t, a, b.Cost)
		checkFarther(t, a, draw.Uint32N(300))
		checkFarther(t, a, math.MaxUint32-a.Cost)
		checkFarther(t, a, math.MaxUint32-a.Cost+1)
	}
}

// TestFartherAndFarther goes behind port after port: nothing gets better, and
// till the greatest cost is reached the better one stays the better one.
func TestFartherAndFarther(t *testing.T) {
	draw := rand.New(rand.NewPCG(10, 6))
	for i := range 2000 {
		a, b, _ := drawThree(i%4, draw)
		if rank.Compare(a, b) > 0 {
			a, b = b, a
		}
		for range 30 {
			cost := draw.Uint32() >> draw.IntN(33)
			checkFarther(t, a, cost)
			a, b = rank.Via(a, cost), rank.Via(b, cost)
			if a.Cost < math.MaxUint32 && b.Cost < math.MaxUint32 && rank.Compare(a, b) > 0 {
				t.Fatalf("behind one port more by %d, %v is worse than %v", cost, a, b)
			}
		}
	}
}

// 10.1 to 10.3: long rows, drawn at random, always the same ones.

// checkAll holds all that is told of two, and of who asks, against the plain comparison.
func checkAll(t *testing.T, a, b rank.Vector, own api.BridgeId) {
	t.Helper()
	want := plain(a, b)
	if rank.Compare(a, b) != want || rank.Compare(b, a) != -want {
		t.Fatalf("Compare(%v, %v) = %d, want %d", a, b, rank.Compare(a, b), want)
	}
	if rank.Keeps(a, b) != (want <= 0) || rank.Keeps(b, a) != (want >= 0) {
		t.Fatalf("Keeps(%v, %v) = %t, the other way round %t", a, b, rank.Keeps(a, b), rank.Keeps(b, a))
	}
	for _, who := range []api.BridgeId{own, a.Bridge, b.Bridge} {
		if got := rank.Supersedes(a, b, who); got != plainSupersedes(a, b, who) {
			t.Fatalf("Supersedes(%v, %v, %d) = %t", a, b, who, got)
		}
		if got := rank.Supersedes(b, a, who); got != plainSupersedes(b, a, who) {
			t.Fatalf("Supersedes(%v, %v, %d) = %t", b, a, who, got)
		}
	}
	checkFarther(t, a, b.Cost)
	checkFarther(t, b, a.Cost)
}

func TestLongRows(t *testing.T) {
	for kind := range 4 {
		t.Run(fmt.Sprintf("kind %d", kind), func(t *testing.T) {
			draw := rand.New(rand.NewPCG(10, uint64(100+kind)))
			for range 100000 {
				a, b, c := drawThree(kind, draw)
				checkAll(t, a, b, c.Bridge)
				checkAll(t, b, c, a.Bridge)
				checkAll(t, a, c, c.Root)
			}
		})
	}
}

// TestOneTakesThePlaceOfOthers holds what a port of a bridge would hold
// behind a long row of tellings: always just what the plain comparison holds.
func TestOneTakesThePlaceOfOthers(t *testing.T) {
	draw := rand.New(rand.NewPCG(10, 7))
	for row := range 300 {
		own := api.BridgeId(row % 3)
		held := small(draw)
		want := held
		for range 200 {
			x := small(draw)
			if rank.Supersedes(x, held, own) {
				held = x
			}
			if plainSupersedes(x, want, own) {
				want = x
			}
			if held != want {
				t.Fatalf("behind %v it holds %v, want %v", x, held, want)
			}
		}
	}
}

// FuzzRank reads two tellings and who asks.
func FuzzRank(f *testing.F) {
	f.Add(uint64(1), uint32(2), uint64(3), uint16(4), uint64(1), uint32(2), uint64(3), uint16(5), uint64(3))
	f.Add(uint64(0), uint32(math.MaxUint32), uint64(3), uint16(4), uint64(1), uint32(0), uint64(0), uint16(0), uint64(9))
	f.Fuzz(func(t *testing.T, r1 uint64, c1 uint32, b1 uint64, p1 uint16, r2 uint64, c2 uint32, b2 uint64, p2 uint16, own uint64) {
		a := rank.Vector{Root: api.BridgeId(r1), Cost: c1, Bridge: api.BridgeId(b1), Port: api.PortId(p1)}
		b := rank.Vector{Root: api.BridgeId(r2), Cost: c2, Bridge: api.BridgeId(b2), Port: api.PortId(p2)}
		checkAll(t, a, b, api.BridgeId(own))
		checkOrder(t, a, b, rank.Vector{Root: a.Root, Cost: b.Cost, Bridge: a.Bridge, Port: b.Port})
	})
}
