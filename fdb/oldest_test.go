package fdb

import "testing"

// old answers a table with an address of that age. No test has the time to
// tick so often, so what it has is put by hand.
func old(age int) *Fdb {
	f := New(2)
	f.Learn(5, 1)
	f.heard.Put(5, Entry{Port: 1, Age: age})
	return f
}

// ageOf answers the age of the one address that a table has, or -1.
func ageOf(f *Fdb) int {
	age := -1
	for _, e := range f.All() {
		age = e.Age
	}
	return age
}

// 8.2: an age goes up to 2^30, and stays.

func TestAgesGoUpTo2To30(t *testing.T) {
	f := old(1<<30 - 3)
	for i, want := range []int{1<<30 - 2, 1<<30 - 1, 1 << 30, 1 << 30, 1 << 30, 1 << 30} {
		if got := f.Tick(1<<30 + 1); got != 0 {
			t.Errorf("tick %d: Tick = %d", i, got)
		}
		if got := ageOf(f); got != want {
			t.Errorf("tick %d: the age is %d, want %d", i, got, want)
		}
	}
	if !f.Learn(5, 2) || ageOf(f) != 0 {
		t.Errorf("Learn brings the age to %d", ageOf(f))
	}
}

// TestLimitsAboutTheGreatestAge ticks one that is about as old as one can be.
func TestLimitsAboutTheGreatestAge(t *testing.T) {
	for _, c := range []struct{ age, limit, want int }{
		{1<<30 - 2, 1<<30 - 2, 1}, {1<<30 - 2, 1<<30 - 1, 1}, {1<<30 - 2, 1 << 30, 0},
		{1<<30 - 1, 1<<30 - 1, 1}, {1<<30 - 1, 1 << 30, 1}, {1<<30 - 1, 1<<30 + 1, 0},
		{1 << 30, 1<<30 - 1, 1}, {1 << 30, 1 << 30, 1}, {1 << 30, 1<<30 + 1, 0}, {1 << 30, 1<<31 - 1, 0},
	} {
		f := old(c.age)
		if got := f.Tick(c.limit); got != c.want {
			t.Errorf("of the age %d: Tick(%d) = %d, want %d", c.age, c.limit, got, c.want)
		}
		if got := f.Len(); got != 1-c.want {
			t.Errorf("of the age %d: Len() = %d behind Tick(%d)", c.age, got, c.limit)
		}
	}
}
