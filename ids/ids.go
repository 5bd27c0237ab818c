// Package ids is layer 1: see shared/doc/01-ids.md.
package ids

import "treeline/api"

const (
	addrBits   = 48
	addrBytes  = addrBits / 8
	addrDigits = addrBits / 4
	textLen    = addrDigits + addrBytes - 1

	addrMask      api.Addr = 1<<addrBits - 1
	groupBit      api.Addr = 1 << 40
	reservedCount api.Addr = 16

	smallDigits = "0123456789abcdef"
)

// Bridge answers the number of a bridge. Bits of a above the lowest 48 would
// spill into the priority, so they are left out.
func Bridge(prio uint16, a api.Addr) api.BridgeId {
	return api.BridgeId(prio)<<addrBits | api.BridgeId(a&addrMask)
}

// Split answers a bridge's priority and address.
func Split(id api.BridgeId) (uint16, api.Addr) {
	return uint16(id >> addrBits), api.Addr(id) & addrMask
}

// Port answers the number of a port, told from 0 on. The place is cut to a
// byte, so that none reaches into the priority.
func Port(prio uint8, i int) api.PortId {
	return api.PortId(prio)<<8 | api.PortId(uint8(i+1))
}

// Number answers which port a number tells, from 0 on; -1: none.
func Number(id api.PortId) int {
	return int(uint8(id)) - 1
}

// Group tells whether an address is several ones'.
func Group(a api.Addr) bool {
	return a&groupBit != 0
}

// Reserved tells whether an address is one that no bridge relays. Unlike
// Group it looks at the whole number: one of 2^48 or above is no address.
func Reserved(a api.Addr) bool {
	return a >= api.Reserved && a < api.Reserved+reservedCount
}

// Right tells whether an address may be one bridge's, or station's.
func Right(a api.Addr) bool {
	return a > 0 && a <= addrMask && !Group(a)
}

// Put answers an address' six bytes.
func Put(a api.Addr) []byte {
	b := make([]byte, addrBytes)
	for i := range addrBytes {
		b[addrBytes-1-i] = byte(a >> (8 * i))
	}
	return b
}

// Get answers the address of six bytes.
func Get(b []byte) (api.Addr, api.Errno) {
	if len(b) < addrBytes {
		return 0, api.ErrShort
	}
	var a api.Addr
	for i := range addrBytes {
		a = a<<8 | api.Addr(b[i])
	}
	return a, api.OK
}

// Text answers an address' text.
func Text(a api.Addr) string {
	t := make([]byte, 0, textLen)
	for i := range addrDigits {
		if i > 0 && i%2 == 0 {
			t = append(t, ':')
		}
		t = append(t, smallDigits[a>>(addrBits-4-4*i)&15])
	}
	return string(t)
}

// Parse answers the address of a text.
func Parse(s string) (api.Addr, api.Errno) {
	if len(s) != textLen {
		return 0, api.ErrForm
	}
	var a api.Addr
	for i := range textLen {
		if colonPlace(i) {
			if s[i] != ':' {
				return 0, api.ErrForm
			}
			continue
		}
		d, ok := digit(s[i])
		if !ok {
			return 0, api.ErrForm
		}
		a = a<<4 | d
	}
	return a, api.OK
}

// colonPlace tells whether a text's byte i stands between two pairs of digits.
func colonPlace(i int) bool {
	return i%3 == 2
}

// digit answers what a digit of base sixteen counts. Capitals are none: each
// address has just one text.
func digit(c byte) (api.Addr, bool) {
	switch {
	case c >= '0' && c <= '9':
		return api.Addr(c - '0'), true
	case c >= 'a' && c <= 'f':
		return api.Addr(c-'a') + 10, true
	}
	return 0, false
}
