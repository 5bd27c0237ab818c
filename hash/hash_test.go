package hash_test

import (
	"encoding/binary"
	"hash/fnv"
	"math"
	"math/big"
	"testing"

	"treeline/api"
	"treeline/hash"
)

// addrs are addresses at which a bit or a byte could go astray, and numbers
// that have more than 48 bits.
func addrs() []api.Addr {
	list := []api.Addr{
		0, 255, 256, 258, 0xAB01, 0x0102030405, 0x010203040506, 0x060504030201,
		0xFEDCBA987654, 0x00A0B0C0D0E0, 1<<40 - 1, 1<<48 - 2,
		api.Reserved, api.Reserved + 15, api.Broadcast,
		1<<48 | 258, 0xFFFF<<48 | 258, math.MaxUint64,
	}
	for i := range 64 {
		list = append(list, 1<<i)
	}
	return list
}

// otherwise reckons a hash by the library's FNV-1a.
func otherwise(a api.Addr) uint32 {
	all := binary.BigEndian.AppendUint64(nil, uint64(a))
	h := fnv.New32a()
	h.Write(all[2:])
	return h.Sum32()
}

// counts are how many places there are: none, few, a whole table, and more
// than a hash tells.
var counts = []int{
	math.MinInt, math.MinInt + 1, math.MinInt32, -65, -64, -2, -1, 0,
	1, 2, 3, 4, 5, 7, 8, 31, 63, 64, 65, 97, 1000, 65536,
	math.MaxInt32, math.MaxInt32 + 1, 1<<32 - 1, 1 << 32, 1<<32 + 1, 1<<33 + 1,
	math.MaxInt - 1, math.MaxInt,
}

// places are numbers some of which are places of some count, down and up to
// the ends of int.
var places = []int{
	math.MinInt, math.MinInt + 1, math.MinInt32, -65, -64, -2, -1,
	0, 1, 2, 3, 4, 5, 6, 7, 30, 62, 63, 64, 65, 96, 999, 1000, 65535, 65536,
	math.MaxInt32 - 2, math.MaxInt32 - 1, math.MaxInt32, math.MaxInt32 + 1, 1<<32 - 2, 1<<32 - 1, 1 << 32,
	math.MaxInt - 2, math.MaxInt - 1, math.MaxInt,
}

// 6.1: Of.

func TestOf(t *testing.T) {
	for _, c := range []struct {
		a    api.Addr
		want uint32
	}{
		// Reckoned apart from the program, with numbers that never wrap round.
		{0, 0x7F77879D},
		{1, 0x7E77860A},
		{258, 0x5B75105A},
		{0x010203040506, 0x03D252AA},
		{api.Reserved, 0xAEA6DF86},
		{api.Broadcast, 0xC4F2886F},
		// The address' bytes spell "foobar", whose hash is published with FNV.
		{0x666F6F626172, 0xBF9CF968},
	} {
		if got := hash.Of(c.a); got != c.want {
			t.Errorf("Of(%x) = %#x, want %#x", c.a, got, c.want)
		}
	}
}

func TestOfAsTheLibraryReckonsIt(t *testing.T) {
	for _, a := range addrs() {
		if got, want := hash.Of(a), otherwise(a); got != want {
			t.Errorf("Of(%x) = %#x, want %#x", a, got, want)
		}
	}
}

func TestOfAddressesThatPartInOneByte(t *testing.T) {
	for _, base := range []api.Addr{0, 0x010203040506, 0x5A5A5A5A5A5A, api.Broadcast} {
		for place := range 6 {
			seen := map[uint32]api.Addr{}
			for b := range 256 {
				a := base&^(255<<(8*place)) | api.Addr(b)<<(8*place)
				got := hash.Of(a)
				if want := otherwise(a); got != want {
					t.Errorf("Of(%x) = %#x, want %#x", a, got, want)
				}
				// Each step of the hash can be gone back, so these all part.
				if other, there := seen[got]; there {
					t.Errorf("Of(%x) = Of(%x) = %#x", a, other, got)
				}
				seen[got] = a
			}
		}
	}
}

func TestOfGoesThroughTheHighestByteFirst(t *testing.T) {
	for _, c := range [][2]api.Addr{{1, 1 << 40}, {1 << 8, 1 << 32}, {1 << 16, 1 << 24}, {0x010203040506, 0x060504030201}} {
		if hash.Of(c[0]) == hash.Of(c[1]) {
			t.Errorf("Of(%x) = Of(%x)", c[0], c[1])
		}
	}
}

func TestOfLeavesOutWhatIsAbove48Bits(t *testing.T) {
	for _, a := range addrs() {
		a &= 1<<48 - 1
		for high := range 16 {
			if got, want := hash.Of(a|1<<(48+high)), hash.Of(a); got != want {
				t.Errorf("Of(%x) = %#x, want %#x", a|1<<(48+high), got, want)
			}
		}
	}
}

// 6.1: Slot.

func TestSlot(t *testing.T) {
	for _, c := range []struct {
		a    api.Addr
		n    int
		want int
	}{
		{0, math.MinInt, 0}, {0, -64, 0}, {0, -1, 0}, {0, 0, 0},
		{0, 1, 0}, {0, 2, 1}, {0, 3, 1}, {0, 7, 5}, {0, 64, 29}, {0, 97, 42},
		{258, -7, 0}, {258, 0, 0}, {258, 1, 0}, {258, 2, 0}, {258, 7, 3}, {258, 64, 26},
		{api.Broadcast, -64, 0}, {api.Broadcast, 0, 0}, {api.Broadcast, 1, 0}, {api.Broadcast, 2, 1}, {api.Broadcast, 63, 61}, {api.Broadcast, 64, 47},
		{0, math.MaxInt32, 0x7F77879D}, {api.Broadcast, math.MaxInt32, 0x44F28870},
		{api.Broadcast, 0xC4F2886E, 1}, {api.Broadcast, 0xC4F2886F, 0}, {api.Broadcast, 0xC4F28870, 0xC4F2886F},
		{api.Broadcast, 1<<32 - 1, 0xC4F2886F}, {api.Broadcast, 1 << 32, 0xC4F2886F}, {api.Broadcast, 1<<32 + 1, 0xC4F2886F}, {api.Broadcast, 1 << 33, 0xC4F2886F},
		{258, 1<<32 + 7, 0x5B75105A}, {api.Broadcast, math.MaxInt, 0xC4F2886F},
	} {
		if got := hash.Slot(c.a, c.n); got != c.want {
			t.Errorf("Slot(%x, %d) = %d, want %d", c.a, c.n, got, c.want)
		}
	}
}

func TestSlotIsWhatIsLeftOfTheHash(t *testing.T) {
	for _, a := range addrs() {
		h := new(big.Int).SetUint64(uint64(otherwise(a)))
		for _, n := range counts {
			want := 0
			if n >= 1 {
				want = int(new(big.Int).Mod(h, big.NewInt(int64(n))).Int64())
			}
			if got := hash.Slot(a, n); got != want {
				t.Errorf("Slot(%x, %d) = %d, want %d", a, n, got, want)
			}
		}
	}
}

// 6.1: Next.

func TestNext(t *testing.T) {
	for _, c := range []struct{ i, n, want int }{
		{0, 4, 1}, {1, 4, 2}, {2, 4, 3}, {3, 4, 0}, {4, 4, 0}, {5, 4, 0}, {1000, 4, 0},
		{-1, 4, 0}, {-2, 4, 0}, {-4, 4, 0}, {math.MinInt, 4, 0}, {math.MaxInt, 4, 0},
		{0, 2, 1}, {1, 2, 0}, {2, 2, 0}, {-1, 2, 0},
		{0, 1, 0}, {1, 1, 0}, {-1, 1, 0},
		{0, 0, 0}, {1, 0, 0}, {-1, 0, 0},
		{0, -1, 0}, {-1, -1, 0}, {-2, -1, 0}, {-5, -3, 0}, {5, -3, 0},
		{0, math.MinInt, 0}, {5, math.MinInt, 0}, {-5, math.MinInt, 0}, {math.MaxInt, math.MinInt, 0}, {math.MinInt, math.MinInt, 0},
		{62, 64, 63}, {63, 64, 0}, {64, 64, 0},
		{math.MaxInt - 2, math.MaxInt, math.MaxInt - 1}, {math.MaxInt - 1, math.MaxInt, 0}, {math.MaxInt, math.MaxInt, 0},
	} {
		if got := hash.Next(c.i, c.n); got != c.want {
			t.Errorf("Next(%d, %d) = %d, want %d", c.i, c.n, got, c.want)
		}
	}
}

func TestNextAgainstTheDocument(t *testing.T) {
	one := big.NewInt(1)
	for _, n := range counts {
		end := new(big.Int).Sub(big.NewInt(int64(n)), one)
		for _, i := range places {
			want := 0
			if i >= 0 && big.NewInt(int64(i)).Cmp(end) < 0 {
				want = i + 1
			}
			if got := hash.Next(i, n); got != want {
				t.Errorf("Next(%d, %d) = %d, want %d", i, n, got, want)
			}
		}
	}
}

// 6.2: Way.

func TestWay(t *testing.T) {
	const last = math.MaxInt32
	for _, c := range []struct{ from, to, n, want int }{
		{3, 1, 4, 2},
		{0, 0, 5, 0}, {2, 2, 5, 0}, {4, 4, 5, 0},
		{1, 3, 5, 2}, {0, 4, 5, 4}, {3, 4, 5, 1},
		{3, 1, 5, 3}, {4, 0, 5, 1}, {4, 3, 5, 4},
		{0, 0, 1, 0}, {0, 1, 2, 1}, {1, 0, 2, 1},
		// No places, or some that there aren't.
		{5, 5, 5, 0}, {0, 5, 5, 0}, {5, 0, 5, 0}, {0, 7, 5, 2}, {7, 0, 5, 3}, {13, 4, 5, 1}, {6, 1, 1, 0}, {1, 6, 1, 0},
		{0, last, 5, 2}, {last, 0, 5, 3}, {last, last, 5, 0}, {last, 1, 64, 2}, {1, last, 64, 62}, {last, last - 1, 64, 63},
		{0, last, last, 0}, {last, 1, last, 1}, {1, last, last, last - 1}, {last - 1, 0, last, 1},
		// More places than both.
		{3, 1, last, last - 2}, {1, 3, last, 2}, {0, last - 1, last, last - 1},
		{0, 0, 0, 0}, {3, 1, 0, 0}, {1, 3, 0, 0}, {last, 0, 0, 0},
		{1, 3, -1, 0}, {3, 1, -1, 0}, {3, 1, -4, 0}, {0, last, -5, 0}, {1, 3, math.MinInt, 0}, {3, 1, math.MinInt, 0},
	} {
		if got := hash.Way(c.from, c.to, c.n); got != c.want {
			t.Errorf("Way(%d, %d, %d) = %d, want %d", c.from, c.to, c.n, got, c.want)
		}
	}
}

func TestWayIsHowOftenNextLeads(t *testing.T) {
	for _, n := range []int{1, 2, 3, 4, 5, 7, 8, 31, 63, 64, 65} {
		for from := range n {
			for to := range n {
				steps := 0
				for at := from; at != to; at = hash.Next(at, n) {
					if steps++; steps > n {
						t.Fatalf("of %d places Next doesn't lead from %d to %d", n, from, to)
					}
				}
				if got := hash.Way(from, to, n); got != steps {
					t.Errorf("Way(%d, %d, %d) = %d, want %d", from, to, n, got, steps)
				}
			}
		}
	}
}

// TestWayAgainstTheDocument works the remainder out anew, by numbers that
// never wrap round: at all ints, not just those from 0 to below 2^31.
func TestWayAgainstTheDocument(t *testing.T) {
	for _, n := range counts {
		for _, from := range places {
			for _, to := range places {
				want := 0
				if n >= 1 {
					gap := new(big.Int).Sub(big.NewInt(int64(to)), big.NewInt(int64(from)))
					want = int(gap.Mod(gap, big.NewInt(int64(n))).Int64())
				}
				if got := hash.Way(from, to, n); got != want {
					t.Errorf("Way(%d, %d, %d) = %d, want %d", from, to, n, got, want)
				}
			}
		}
	}
}

// 6.3: by Next one comes to all places.

// walk goes by Next through n places, as many steps as there are places. It
// answers where it ends, and how many places it came to.
func walk(t *testing.T, from, n int) (int, int) {
	t.Helper()
	seen := make([]bool, n)
	at, met := from, 0
	for range n {
		at = hash.Next(at, n)
		if at < 0 || at >= n {
			t.Fatalf("of %d places, begun at %d, one comes to %d", n, from, at)
		}
		if !seen[at] {
			seen[at] = true
			met++
		}
	}
	return at, met
}

func TestNextComesToAllPlaces(t *testing.T) {
	for n := 1; n <= 130; n++ {
		for from := range n {
			if at, met := walk(t, from, n); met != n || at != from {
				t.Errorf("of %d places, begun at %d: %d places met, ended at %d", n, from, met, at)
			}
		}
	}
}

func TestNextComesToAllPlacesFromAnyNumber(t *testing.T) {
	for n := 1; n <= 65; n++ {
		for _, from := range append([]int{n, n + 1}, places...) {
			if _, met := walk(t, from, n); met != n {
				t.Errorf("of %d places, begun at %d: %d places met", n, from, met)
			}
		}
	}
}

func TestNextComesToAllPlacesFromASlot(t *testing.T) {
	for _, a := range addrs() {
		for _, n := range []int{1, 2, 3, 63, api.MaxTable} {
			from := hash.Slot(a, n)
			if at, met := walk(t, from, n); met != n || at != from {
				t.Errorf("of %d places, begun at Slot(%x) = %d: %d places met, ended at %d", n, a, from, met, at)
			}
		}
	}
}

func FuzzWay(f *testing.F) {
	f.Add(3, 1, 4)
	f.Add(math.MaxInt32, 0, 64)
	f.Fuzz(func(t *testing.T, from, to, n int) {
		way := hash.Way(from, to, n)
		if n < 1 {
			if way != 0 {
				t.Errorf("Way(%d, %d, %d) = %d", from, to, n, way)
			}
			return
		}
		if way < 0 || way >= n {
			t.Fatalf("Way(%d, %d, %d) = %d", from, to, n, way)
		}
		// Both ways together are a whole round, or none.
		if back := hash.Way(to, from, n); way != 0 && back != n-way || way == 0 && back != 0 {
			t.Errorf("Way(%d, %d, %d) = %d, and back %d", from, to, n, way, back)
		}
	})
}
