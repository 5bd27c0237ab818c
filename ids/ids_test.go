package ids_test

import (
	"bytes"
	"fmt"
	"math"
	"strings"
	"testing"

	"treeline/api"
	"treeline/ids"
)

const mask = api.Addr(1<<48 - 1)

// addrs are addresses at which a bit, a byte or a digit could go astray.
func addrs() []api.Addr {
	list := []api.Addr{
		0, 1, 5, 15, 16, 255, 256, 258, 0xAB01,
		0x0102030405, 0x010203040506, 0xFEDCBA987654, 0x00A0B0C0D0E0,
		1<<40 - 1, 1 << 40, 2 << 40, 3 << 40, 1<<48 - 2,
		api.Reserved - 1, api.Reserved, api.Reserved + 15, api.Reserved + 16,
		api.Broadcast,
	}
	for i := range 48 {
		list = append(list, 1<<i)
	}
	return list
}

// tooGreat answers numbers of 2^48 and above whose lowest 48 bits are a.
func tooGreat(a api.Addr) []api.Addr {
	return []api.Addr{a | 1<<48, a | 1<<56, a | 1<<63, a | 0xFFFF<<48}
}

// 1.1: Bridge and Split.

func TestBridge(t *testing.T) {
	for _, c := range []struct {
		prio uint16
		a    api.Addr
		want api.BridgeId
	}{
		{0, 0, 0},
		{0, 1, 1},
		{1, 0, 1 << 48},
		{0x8000, 0x0102030405, 0x8000000102030405},
		{32768, 0x010203040506, 0x8000010203040506},
		{0xFFFF, api.Broadcast, math.MaxUint64},
		{0xFFFF, 0, 0xFFFF000000000000},
		{0, api.Broadcast, 0x0000FFFFFFFFFFFF},
	} {
		if got := ids.Bridge(c.prio, c.a); got != c.want {
			t.Errorf("Bridge(%x, %x) = %x, want %x", c.prio, c.a, got, c.want)
		}
	}
}

func TestBridgeCountsTheLowest48Bits(t *testing.T) {
	for _, prio := range []uint16{0, 1, 0x8000, 0xFFFF} {
		for _, a := range addrs() {
			for _, high := range tooGreat(a) {
				if got, want := ids.Bridge(prio, high), ids.Bridge(prio, a); got != want {
					t.Errorf("Bridge(%x, %x) = %x, want %x", prio, high, got, want)
				}
			}
		}
	}
}

func TestSplit(t *testing.T) {
	for _, c := range []struct {
		id   api.BridgeId
		prio uint16
		a    api.Addr
	}{
		{0, 0, 0},
		{1, 0, 1},
		{1 << 48, 1, 0},
		{0x8000000102030405, 0x8000, 0x0102030405},
		{1<<48 - 1, 0, api.Broadcast},
		{math.MaxUint64, 0xFFFF, api.Broadcast},
		{0x1234F0E0D0C0B0A0, 0x1234, 0xF0E0D0C0B0A0},
	} {
		if prio, a := ids.Split(c.id); prio != c.prio || a != c.a {
			t.Errorf("Split(%x) = %x, %x, want %x, %x", c.id, prio, a, c.prio, c.a)
		}
	}
}

// 1.1: Port and Number.

func TestPort(t *testing.T) {
	for _, c := range []struct {
		prio uint8
		i    int
		want api.PortId
	}{
		{0, 0, 0x0001},
		{128, 2, 0x8003},
		{255, 0, 0xFF01},
		{1, 3, 0x0104},
		{0, 254, 0x00FF},
		{255, 254, 0xFFFF},
	} {
		if got := ids.Port(c.prio, c.i); got != c.want {
			t.Errorf("Port(%d, %d) = %x, want %x", c.prio, c.i, got, c.want)
		}
	}
}

func TestPortPlaceNeverReachesThePriority(t *testing.T) {
	for _, c := range []struct {
		i    int
		want api.PortId
	}{
		{255, 0x8000},
		{256, 0x8001},
		{511, 0x8000},
		{65535, 0x8000},
		{-1, 0x8000},
		{-2, 0x80FF},
		{-256, 0x8001},
		{math.MaxInt, 0x8000},
		{math.MinInt, 0x8001},
	} {
		if got := ids.Port(128, c.i); got != c.want {
			t.Errorf("Port(128, %d) = %x, want %x", c.i, got, c.want)
		}
	}
}

func TestNumber(t *testing.T) {
	for _, c := range []struct {
		id   api.PortId
		want int
	}{
		{0x0000, -1},
		{0x8000, -1},
		{0xFF00, -1},
		{0x0001, 0},
		{0x8003, 2},
		{0x00FF, 254},
		{0xFFFF, 254},
	} {
		if got := ids.Number(c.id); got != c.want {
			t.Errorf("Number(%x) = %d, want %d", c.id, got, c.want)
		}
	}
}

func TestNumberOfPort(t *testing.T) {
	for prio := range 256 {
		for i := range 255 {
			if got := ids.Number(ids.Port(uint8(prio), i)); got != i {
				t.Fatalf("Number(Port(%d, %d)) = %d", prio, i, got)
			}
		}
	}
}

// 1.1: Group, Reserved and Right.

func TestGroup(t *testing.T) {
	for _, c := range []struct {
		a    api.Addr
		want bool
	}{
		{0, false},
		{1, false},
		{1<<40 - 1, false},
		{1 << 40, true},
		{1<<41 - 1, true},
		{2 << 40, false},
		{3 << 40, true},
		{0xFEFFFFFFFFFF, false},
		{api.Reserved, true},
		{api.Broadcast, true},
	} {
		if got := ids.Group(c.a); got != c.want {
			t.Errorf("Group(%x) = %t", c.a, got)
		}
		for _, high := range tooGreat(c.a) {
			if got := ids.Group(high); got != c.want {
				t.Errorf("Group(%x) = %t", high, got)
			}
		}
	}
}

func TestReserved(t *testing.T) {
	for i := range 16 {
		a := api.Reserved + api.Addr(i)
		if !ids.Reserved(a) {
			t.Errorf("Reserved(%x) = false", a)
		}
		for _, high := range tooGreat(a) {
			if ids.Reserved(high) {
				t.Errorf("Reserved(%x) = true: it is no address", high)
			}
		}
	}
	for _, a := range []api.Addr{
		0, 1, 15, 1 << 40, api.Broadcast,
		api.Reserved - 1, api.Reserved + 16, api.Reserved + 17,
		api.Reserved + 256, api.Reserved &^ (1 << 40), math.MaxUint64,
	} {
		if ids.Reserved(a) {
			t.Errorf("Reserved(%x) = true", a)
		}
	}
}

func TestRight(t *testing.T) {
	for _, a := range []api.Addr{1, 2, 5, 1<<40 - 1, 2 << 40, 0x020000000001, 0xFEFFFFFFFFFF} {
		if !ids.Right(a) {
			t.Errorf("Right(%x) = false", a)
		}
	}
	for _, a := range []api.Addr{
		0, 1 << 40, 1<<40 + 1, 3 << 40, api.Reserved, api.Broadcast,
		1 << 48, 1<<48 + 1, 1<<48 + 5, 1 << 63, 1<<63 + 5, math.MaxUint64,
		math.MaxUint64 &^ (1 << 40),
	} {
		if ids.Right(a) {
			t.Errorf("Right(%x) = true", a)
		}
	}
}

// 1.2: Put and Get.

func TestPut(t *testing.T) {
	for _, c := range []struct {
		a    api.Addr
		want []byte
	}{
		{0, []byte{0, 0, 0, 0, 0, 0}},
		{258, []byte{0, 0, 0, 0, 1, 2}},
		{0x010203040506, []byte{1, 2, 3, 4, 5, 6}},
		{api.Reserved, []byte{0x01, 0x80, 0xC2, 0, 0, 0}},
		{api.Broadcast, []byte{255, 255, 255, 255, 255, 255}},
		{1 << 48, []byte{0, 0, 0, 0, 0, 0}},
		{0xABCD010203040506, []byte{1, 2, 3, 4, 5, 6}},
	} {
		if got := ids.Put(c.a); !bytes.Equal(got, c.want) {
			t.Errorf("Put(%x) = %x, want %x", c.a, got, c.want)
		}
	}
}

func TestPutAnswersNewMemory(t *testing.T) {
	first := ids.Put(0x010203040506)
	for i := range first[:cap(first)] {
		first[:cap(first)][i] = 99
	}
	if second := ids.Put(0x010203040506); !bytes.Equal(second, []byte{1, 2, 3, 4, 5, 6}) {
		t.Errorf("Put after a change of its answer = %x", second)
	}
}

func TestGet(t *testing.T) {
	for _, c := range []struct {
		b    []byte
		want api.Addr
	}{
		{[]byte{0, 0, 0, 0, 0, 0}, 0},
		{[]byte{1, 2, 3, 4, 5, 6}, 0x010203040506},
		{[]byte{255, 255, 255, 255, 255, 255}, api.Broadcast},
		{[]byte{0, 0, 0, 0, 1, 2, 9}, 258},
		{append([]byte{0x01, 0x80, 0xC2, 0, 0, 0}, make([]byte, 1500)...), api.Reserved},
	} {
		before := bytes.Clone(c.b)
		if a, e := ids.Get(c.b); a != c.want || e != api.OK {
			t.Errorf("Get(%x) = %x, %d, want %x", c.b, a, e, c.want)
		}
		if !bytes.Equal(before, c.b) {
			t.Errorf("Get changed %x to %x", before, c.b)
		}
	}
}

func TestGetOfTooFewBytes(t *testing.T) {
	all := []byte{1, 2, 3, 4, 5, 6}
	for n := range 6 {
		// The spare room holds the bytes that are missing: they don't count.
		if a, e := ids.Get(all[:n]); a != 0 || e != api.ErrShort {
			t.Errorf("Get of %d bytes = %x, %d", n, a, e)
		}
	}
	if a, e := ids.Get(nil); a != 0 || e != api.ErrShort {
		t.Errorf("Get(nil) = %x, %d", a, e)
	}
}

// 1.3: Text and Parse.

var texts = []struct {
	a    api.Addr
	text string
}{
	{0, "00:00:00:00:00:00"},
	{258, "00:00:00:00:01:02"},
	{0xAB01, "00:00:00:00:ab:01"},
	{0x010203040506, "01:02:03:04:05:06"},
	{0x0123456789AB, "01:23:45:67:89:ab"},
	{0xCDEF00000000, "cd:ef:00:00:00:00"},
	{0xFEDCBA987654, "fe:dc:ba:98:76:54"},
	{api.Reserved, "01:80:c2:00:00:00"},
	{api.Broadcast, "ff:ff:ff:ff:ff:ff"},
}

func TestText(t *testing.T) {
	for _, c := range texts {
		if got := ids.Text(c.a); got != c.text {
			t.Errorf("Text(%x) = %q, want %q", c.a, got, c.text)
		}
		for _, high := range tooGreat(c.a) {
			if got := ids.Text(high); got != c.text {
				t.Errorf("Text(%x) = %q, want %q", high, got, c.text)
			}
		}
	}
}

func TestTextTellsTheBytesOfPut(t *testing.T) {
	for _, a := range addrs() {
		var parts []string
		for _, x := range ids.Put(a) {
			parts = append(parts, fmt.Sprintf("%02x", x))
		}
		if got, want := ids.Text(a), strings.Join(parts, ":"); got != want {
			t.Errorf("Text(%x) = %q, want %q", a, got, want)
		}
	}
}

func TestParse(t *testing.T) {
	for _, c := range texts {
		if a, e := ids.Parse(c.text); a != c.a || e != api.OK {
			t.Errorf("Parse(%q) = %x, %d, want %x", c.text, a, e, c.a)
		}
	}
}

func TestParseOfWhatIsNoText(t *testing.T) {
	for _, s := range []string{
		"", "0", ":", ":::::", "00", "000000000102",
		"00:00:00:00:01:0", "00:00:00:00:01:", "00:00:00:00:01",
		"00:00:00:00:01:02:", ":00:00:00:00:01:02", "00:00:00:00:01:02:03", "00:00:00:00:01:021",
		" 00:00:00:00:01:02", "00:00:00:00:01:02 ", "00:00:00:00:01:02\n", "00:00:00:00:01:02\x00",
		"00:00:00:00:AB:01", "00:00:00:00:aB:01", "FF:FF:FF:FF:FF:FF",
		"00-00-00-00-01-02", "00:00:00:00:01-02", "0000:00:00:01:02:",
		"0:000:00:00:01:02", "00:00:00:00:0x:02", "0x:00:00:00:01:02",
		"+1:00:00:00:01:02", "-1:00:00:00:01:02", " 1:00:00:00:01:02", "1_:00:00:00:01:02",
		"0g:00:00:00:01:02", "00:00:00:00:01:0G", "00:00:00:00:01:0/", "00:00:00:00:01:0`",
		"é:00:00:00:01:02", "00:00:00:00:01:é", "\xff\xff:00:00:00:01:02",
		strings.Repeat("00:", 1000),
	} {
		if a, e := ids.Parse(s); a != 0 || e != api.ErrForm {
			t.Errorf("Parse(%q) = %x, %d", s, a, e)
		}
	}
}

func TestParseLooksAtEveryByte(t *testing.T) {
	const right = "12:34:56:78:9a:bc"
	for i := range len(right) {
		for c := range 256 {
			s := right[:i] + string([]byte{byte(c)}) + right[i+1:]
			allowed := "0123456789abcdef"
			if right[i] == ':' {
				allowed = ":"
			}
			a, e := ids.Parse(s)
			if strings.IndexByte(allowed, byte(c)) < 0 {
				if a != 0 || e != api.ErrForm {
					t.Errorf("Parse(%q) = %x, %d", s, a, e)
				}
			} else if e != api.OK || ids.Text(a) != s {
				t.Errorf("Parse(%q) = %x, %d", s, a, e)
			}
		}
	}
}

// 1.4: the order of bridges; what is put, or told, is read as it was.

func TestOrderOfBridges(t *testing.T) {
	prios := []uint16{0, 1, 255, 256, 0x7FFF, 0x8000, 0xFFFF}
	for _, p := range prios {
		for _, q := range prios {
			for _, a := range addrs() {
				for _, b := range addrs() {
					want := p < q || p == q && a < b
					if got := ids.Bridge(p, a) < ids.Bridge(q, b); got != want {
						t.Fatalf("Bridge(%x, %x) < Bridge(%x, %x) = %t", p, a, q, b, got)
					}
				}
			}
		}
	}
}

func TestBridgeIsSplitAsItWas(t *testing.T) {
	for _, prio := range []uint16{0, 1, 255, 256, 0x7FFF, 0x8000, 0xFFFF} {
		for _, a := range addrs() {
			if p, b := ids.Split(ids.Bridge(prio, a)); p != prio || b != a {
				t.Errorf("Split(Bridge(%x, %x)) = %x, %x", prio, a, p, b)
			}
		}
	}
	for _, id := range []api.BridgeId{0, 1, 1 << 47, 1 << 48, 1 << 63, 0x123456789ABCDEF0, math.MaxUint64} {
		if got := ids.Bridge(ids.Split(id)); got != id {
			t.Errorf("Bridge(Split(%x)) = %x", id, got)
		}
	}
}

func TestWhatIsPutIsReadAsItWas(t *testing.T) {
	for _, a := range addrs() {
		if got, e := ids.Get(ids.Put(a)); got != a || e != api.OK {
			t.Errorf("Get(Put(%x)) = %x, %d", a, got, e)
		}
		for _, high := range tooGreat(a) {
			if got, e := ids.Get(ids.Put(high)); got != a || e != api.OK {
				t.Errorf("Get(Put(%x)) = %x, %d", high, got, e)
			}
		}
	}
}

func TestWhatIsToldIsReadAsItWas(t *testing.T) {
	for _, a := range addrs() {
		if got, e := ids.Parse(ids.Text(a)); got != a || e != api.OK {
			t.Errorf("Parse(Text(%x)) = %x, %d", a, got, e)
		}
		for _, high := range tooGreat(a) {
			if got, e := ids.Parse(ids.Text(high)); got != a || e != api.OK {
				t.Errorf("Parse(Text(%x)) = %x, %d", high, got, e)
			}
		}
	}
}

func FuzzParse(f *testing.F) {
	for _, c := range texts {
		f.Add(c.text)
	}
	f.Fuzz(func(t *testing.T, s string) {
		a, e := ids.Parse(s)
		switch {
		case e == api.OK && (a > mask || ids.Text(a) != s):
			t.Errorf("Parse(%q) = %x, but its text is %q", s, a, ids.Text(a))
		case e != api.OK && (a != 0 || e != api.ErrForm):
			t.Errorf("Parse(%q) = %x, %d", s, a, e)
		}
	})
}
