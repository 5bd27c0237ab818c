package relay_test

import (
	"slices"
	"testing"

	"treeline/api"
)

// 18.1: data from an address that may be one's is learnt by a port that is
// Learning or Forwarding, and by no other one.
func TestLearnsByState(t *testing.T) {
	for _, from := range froms {
		f := to(5)
		f.From = from
		checkLearns(t, f, disabled, false)
		checkLearns(t, f, blocking, false)
		checkLearns(t, f, listening, false)
		checkLearns(t, f, learning, true)
		checkLearns(t, f, forwarding, true)
		for _, s := range noStates {
			checkLearns(t, f, s, false)
		}
	}
	for bit := range 64 {
		checkLearns(t, to(5), forwarding^1<<bit, false)
		checkLearns(t, to(5), learning^1<<bit, false)
	}
}

// 18.1: who can't be one is never learnt: 0, several ones, what is above 48 bits.
func TestLearnsNobody(t *testing.T) {
	for _, from := range noFroms {
		f := to(5)
		f.From = from
		for _, s := range slices.Concat(allStates, noStates) {
			checkLearns(t, f, s, false)
		}
	}
	for bit := range 64 {
		f := to(5)
		f.From = 0x0203_0405_0607 ^ 1<<bit
		checkLearns(t, f, learning, bit != 40 && bit < 48)
		checkLearns(t, f, forwarding, bit != 40 && bit < 48)
		f.From = 1 << bit
		checkLearns(t, f, forwarding, bit != 40 && bit < 48)
	}
}

// 18.1: of what is no data nobody is learnt, in whatever state, also not of
// what Check would refuse; of data whoever it is to.
func TestLearnsByClass(t *testing.T) {
	lldp := tells()
	lldp.Kind = 0x88cc
	short := tells()
	short.Kind = 1500
	for _, f := range []api.Frame{tells(), short, lldp, to(reserved), to(reserved + 1), to(lastReserved), {To: reserved, From: 2}} {
		for _, s := range slices.Concat(allStates, noStates) {
			checkLearns(t, f, s, false)
		}
	}
	for _, a := range slices.Concat(ones, groups) {
		for _, f := range []api.Frame{to(a), {To: a, From: 2, Kind: 1501}, {To: a, From: 2, Kind: 7, Data: bpdu(0, 0, 0, 0x80)}} {
			checkLearns(t, f, listening, false)
			checkLearns(t, f, learning, true)
			checkLearns(t, f, forwarding, true)
		}
	}
}
