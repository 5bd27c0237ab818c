package span_test

import (
	"math"
	"math/big"
	"slices"
	"testing"

	"treeline/api"
	"treeline/span"
)

// belowNothing are times and seconds that count as 0, down to the end of int.
var belowNothing = []int{-1, -2, -255, -256, -257, -65535, -65536, math.MinInt32, math.MinInt / 256, math.MinInt/256 - 1, math.MinInt + 1, math.MinInt}

// beyondFields are times and seconds above all that a field tells. Some of
// them, 256 times or with 256 added, wrap round to what looks ordinary.
var beyondFields = []int{
	65536, 65537, 65791, 65792, 70000, 1 << 24, 1<<24 + 1, math.MaxInt32,
	math.MaxInt / 256, math.MaxInt/256 + 1, math.MaxInt/128 + 2, math.MaxInt/2 + 1, math.MaxInt/2 + 3,
	math.MaxInt - 65536, math.MaxInt - 65535, math.MaxInt - 256, math.MaxInt - 255, math.MaxInt - 254,
	math.MaxInt - 1, math.MaxInt,
}

// times are all that a field tells, and what lies around them and far off.
func times() []int {
	list := append([]int{}, belowNothing...)
	for t := -600; t <= 67000; t++ {
		list = append(list, t)
	}
	return append(list, beyondFields...)
}

type answer struct {
	in, want int
}

func check(t *testing.T, name string, f func(int) int, list []answer) {
	t.Helper()
	for _, c := range list {
		if got := f(c.in); got != c.want {
			t.Errorf("%s(%d) = %d, want %d", name, c.in, got, c.want)
		}
	}
}

func checkAll(t *testing.T, name string, f func(int) int, ins []int, want int) {
	t.Helper()
	for _, in := range ins {
		check(t, name, f, []answer{{in, want}})
	}
}

func field(t int) int {
	return int(span.Field(t))
}

// 2.1: each call at ordinary numbers, at the edges, and at the ends of int.

func TestField(t *testing.T) {
	check(t, "Field", field, []answer{{0, 0}, {1, 1}, {255, 255}, {256, 256}, {5120, 5120}, {32767, 32767}, {32768, 32768}, {65534, 65534}, {65535, 65535}, {65536, 65535}})
	checkAll(t, "Field", field, belowNothing, 0)
	checkAll(t, "Field", field, beyondFields, 65535)
}

func TestFieldTellsEveryTimeOfAField(t *testing.T) {
	for in := range 65536 {
		if got := field(in); got != in {
			t.Fatalf("Field(%d) = %d", in, got)
		}
	}
}

func TestOf(t *testing.T) {
	check(t, "Of", span.Of, []answer{{0, 0}, {1, 256}, {2, 512}, {20, 5120}, {254, 65024}, {255, 65280}, {256, 65535}, {257, 65535}, {300, 65535}, {65535, 65535}})
	checkAll(t, "Of", span.Of, belowNothing, 0)
	checkAll(t, "Of", span.Of, beyondFields, 65535)
}

func TestFloor(t *testing.T) {
	check(t, "Floor", span.Floor, []answer{
		{0, 0}, {1, 0}, {255, 0}, {256, 1}, {257, 1}, {511, 1}, {512, 2}, {5120, 20},
		{65279, 254}, {65280, 255}, {65535, 255},
		{65536, 256}, {65791, 256}, {65792, 257}, {1 << 24, 65536},
		{math.MaxInt32, 8388607}, {math.MaxInt - 255, math.MaxInt / 256}, {math.MaxInt - 256, math.MaxInt/256 - 1}, {math.MaxInt, math.MaxInt / 256},
	})
	checkAll(t, "Floor", span.Floor, belowNothing, 0)
}

func TestCeil(t *testing.T) {
	check(t, "Ceil", span.Ceil, []answer{
		{0, 0}, {1, 1}, {255, 1}, {256, 1}, {257, 2}, {511, 2}, {512, 2}, {513, 3}, {5120, 20},
		{65279, 255}, {65280, 255}, {65281, 256}, {65535, 256},
		{65536, 256}, {65537, 257}, {65792, 257}, {1 << 24, 65536},
		{math.MaxInt32, 8388608}, {math.MaxInt - 255, math.MaxInt / 256}, {math.MaxInt - 254, math.MaxInt/256 + 1}, {math.MaxInt, math.MaxInt/256 + 1},
	})
	checkAll(t, "Ceil", span.Ceil, belowNothing, 0)
}

func TestOlder(t *testing.T) {
	check(t, "Older", span.Older, []answer{{0, 256}, {1, 257}, {255, 511}, {256, 512}, {5120, 5376}, {65278, 65534}, {65279, 65535}, {65280, 65535}, {65534, 65535}, {65535, 65535}})
	checkAll(t, "Older", span.Older, belowNothing, 256)
	checkAll(t, "Older", span.Older, beyondFields, 65535)
}

// TestAgainstTheDocument works the answers out anew, by numbers that never
// wrap round.
func TestAgainstTheDocument(t *testing.T) {
	second, greatest := big.NewInt(api.Second), big.NewInt(65535)
	least := func(x *big.Int) int {
		if x.Cmp(greatest) > 0 {
			return 65535
		}
		return int(x.Int64())
	}
	for _, in := range times() {
		n := big.NewInt(int64(in))
		if n.Sign() < 0 {
			n.SetInt64(0)
		}
		whole, rest := new(big.Int).QuoRem(n, second, new(big.Int))
		floor := int(whole.Int64())
		check(t, "Field", field, []answer{{in, least(n)}})
		check(t, "Of", span.Of, []answer{{in, least(new(big.Int).Mul(n, second))}})
		check(t, "Floor", span.Floor, []answer{{in, floor}})
		check(t, "Ceil", span.Ceil, []answer{{in, floor + rest.Sign()}})
		check(t, "Older", span.Older, []answer{{in, least(new(big.Int).Add(n, second))}})
	}
}

// 2.2: a time lies between its Floor and its Ceil; what is older isn't less.

func TestTimeLiesBetweenFloorAndCeil(t *testing.T) {
	second := big.NewInt(api.Second)
	for _, in := range times() {
		n := big.NewInt(int64(max(in, 0)))
		low := new(big.Int).Mul(big.NewInt(int64(span.Floor(in))), second)
		high := new(big.Int).Mul(big.NewInt(int64(span.Ceil(in))), second)
		if low.Cmp(n) > 0 || n.Cmp(high) > 0 {
			t.Errorf("%d does not lie between %v and %v", in, low, high)
		}
		if gap := span.Ceil(in) - span.Floor(in); gap < 0 || gap > 1 {
			t.Errorf("%d: its Floor %d and its Ceil %d aren't next to it", in, span.Floor(in), span.Ceil(in))
		}
	}
}

func TestWholeSecondsAreTheirOwnFloorAndCeil(t *testing.T) {
	for seconds := range 256 {
		if in := span.Of(seconds); span.Floor(in) != seconds || span.Ceil(in) != seconds {
			t.Errorf("Of(%d) = %d: Floor %d, Ceil %d", seconds, in, span.Floor(in), span.Ceil(in))
		}
	}
}

func TestOlderIsNotLess(t *testing.T) {
	for in := -600; in <= 65535; in++ {
		if got := span.Older(in); got < in || got < 65535 && got < in+api.Second {
			t.Errorf("Older(%d) = %d", in, got)
		}
	}
}

func TestAnswersDoNotFallAsTimesRise(t *testing.T) {
	rising := times()
	slices.Sort(rising)
	for name, f := range map[string]func(int) int{"Field": field, "Of": span.Of, "Floor": span.Floor, "Ceil": span.Ceil, "Older": span.Older} {
		last := f(math.MinInt)
		for _, in := range rising {
			got := f(in)
			if got < last {
				t.Errorf("%s(%d) = %d, less than of the time ahead: %d", name, in, got, last)
			}
			last = got
		}
	}
}
