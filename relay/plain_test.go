package relay_test

import (
	"slices"

	"treeline/api"
)

// A plain reading of the chapter, that asks no layer.

// plainClass: a frame that bridges tell each other is to the first reserved
// address, its Kind a length (whichever), its data begin with 42 42 3.
func plainClass(f api.Frame) int {
	if f.To>>4 != reserved>>4 {
		return data
	}
	if f.To&15 != 0 || f.Kind > 1500 || len(f.Data) < 3 || string(f.Data[:3]) != "\x42\x42\x03" {
		return kept
	}
	return told
}

// plainGroup: the lowest bit of the first of the six bytes of the address is set.
func plainGroup(a api.Addr) bool {
	return a>>40%2 == 1
}

func plainLearns(f api.Frame, state int) bool {
	one := f.From != 0 && f.From>>48 == 0 && !plainGroup(f.From)
	return one && plainClass(f) == data && slices.Contains([]int{learning, forwarding}, state)
}

// plainPorts takes the ports out that a frame doesn't go by, one reason behind the other.
func plainPorts(f api.Frame, in int, states []int, where int, known bool) []int {
	var goes []int
	heard := false
	for i, s := range states {
		switch {
		case i == in:
			heard = s == forwarding
		case s != forwarding:
		case known && !plainGroup(f.To) && i != where:
		default:
			goes = append(goes, i)
		}
	}
	if !heard || plainClass(f) != data {
		return nil
	}
	return goes
}
