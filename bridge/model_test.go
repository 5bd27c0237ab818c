package bridge_test

import (
	"cmp"
	"slices"

	"treeline/api"
	"treeline/rank"
	"treeline/tree"
)

// A plain reading of this chapter, and of chapters 4, 8, 11 and 18, likewise.

// An entry is an address, behind which port it was heard, and how many ticks ago.
type entry struct {
	addr      api.Addr
	port, age int
}

// A model is what the chapters say that a bridge is.
type model struct {
	conf  api.Conf
	view  tree.Tree
	table []entry // in the order in which they were learnt first
}

// plainCheck: the first thing that is wrong with a configuration.
func plainCheck(c api.Conf) api.Errno {
	many := len(c.Ports)
	switch {
	case !plainIsOne(c.Addr):
		return errArg
	case c.MaxAge < 6 || c.MaxAge > 40 || c.Hello < 1 || c.Hello > 10 || c.Delay < 4 || c.Delay > 30:
		return errForm
	case c.MaxAge > 2*c.Delay-2 || c.MaxAge < 2*c.Hello+2 || c.Ageing < 10 || c.Ageing > 1_000_000 || c.Table < 0 || c.Table > 64:
		return errForm
	case many == 0:
		return errNone
	case many > 4:
		return errLong
	}
	for _, p := range c.Ports {
		if p.Cost == 0 || p.Cost > 65535 {
			return errForm
		}
	}
	return fine
}

// plainIsOne: the address may be one's.
func plainIsOne(a api.Addr) bool {
	return a != 0 && a>>48 == 0 && !plainGroup(a)
}

// plainGroup: the lowest bit of the first of the six bytes of the address is set.
func plainGroup(a api.Addr) bool {
	return a>>40%2 == 1
}

// plainFrame: the frame of bytes, if they are one's.
func plainFrame(raw []byte) (api.Frame, bool) {
	if len(raw) < 14 {
		return api.Frame{}, false
	}
	var f api.Frame
	for i, b := range raw[:12] {
		if i < 6 {
			f.To = f.To<<8 | api.Addr(b)
		} else {
			f.From = f.From<<8 | api.Addr(b)
		}
	}
	f.Kind = uint16(raw[12])<<8 | uint16(raw[13])
	left := raw[14:]
	switch {
	case f.Kind <= 1500 && len(left) >= int(f.Kind):
		f.Data = left[:f.Kind]
	case f.Kind >= 1536 && len(left) <= 1500:
		f.Data = left
	default:
		return api.Frame{}, false
	}
	f.Data = slices.Clone(f.Data)
	return f, true
}

// plainTold: a frame that bridges tell each other.
func plainTold(f api.Frame) bool {
	return f.To == reserved && f.Kind <= 1500 && len(f.Data) >= 3 && f.Data[0] == 0x42 && f.Data[1] == 0x42 && f.Data[2] == 3
}

// begin: what a bridge does that begins, whatever it was.
func (m *model) begin() []api.Out {
	c := m.conf
	id := api.BridgeId(uint64(c.Prio)<<48 | uint64(c.Addr))
	times := tree.Times{MaxAge: 256 * c.MaxAge, Hello: 256 * c.Hello, Delay: 256 * c.Delay}
	m.table = nil
	m.view = tree.Tree{Own: id, Root: id, RootPort: -1, Now: times, Mine: times}
	for i, p := range c.Ports {
		number := api.PortId(uint16(p.Prio)<<8 | uint16(i+1))
		q := api.Port{Id: number, Cost: p.Cost, Held: rank.Vector{Root: id, Bridge: id, Port: number}}
		if p.On {
			q.State, q.Delay = listening, runs(0)
		}
		m.view.Ports = append(m.view.Ports, q)
	}
	out := m.now(plainTellAll(m.view))
	m.view.Hello = runs(0)
	return out
}

// now lets the view be that one; it hands on what goes out.
func (m *model) now(x tree.Tree, out []api.Out) []api.Out {
	m.view = own(x)
	return out
}

func (m *model) states() []int {
	var states []int
	for _, p := range m.view.Ports {
		states = append(states, p.State)
	}
	return states
}

func (m *model) rising() []entry {
	return slices.SortedFunc(slices.Values(m.table), func(x, y entry) int { return cmp.Compare(x.addr, y.addr) })
}

func (m *model) find(a api.Addr) int {
	return slices.IndexFunc(m.table, func(x entry) bool { return x.addr == a })
}

func (m *model) lookup(a api.Addr) (int, bool) {
	if i := m.find(a); i >= 0 {
		return m.table[i].port, true
	}
	return 0, false
}

func (m *model) limit() int {
	if !m.view.Change {
		return m.conf.Ageing
	}
	seconds := 0
	for 256*seconds < m.view.Now.Delay {
		seconds++
	}
	return seconds
}

func (m *model) tick() []api.Out {
	out := m.now(plainTick(m.view))
	for i := range m.table {
		m.table[i].age++
	}
	m.table = slices.DeleteFunc(m.table, func(x entry) bool { return x.age >= m.limit() })
	return out
}

func (m *model) in(i int, raw []byte) []api.Out {
	f, ok := plainFrame(raw)
	if !ok || !isPlace(m.view, i) {
		return nil
	}
	if plainTold(f) {
		x, out, _ := plainBytes(m.view, i, f.Data[3:])
		return m.now(x, out)
	}
	if f.To>>4 == reserved>>4 {
		return nil
	}
	if s := m.view.Ports[i].State; s == learning || s == forwarding {
		m.learn(f.From, i)
	}
	return m.goesOn(i, f)
}

// learn: an address was heard behind a port that learns.
func (m *model) learn(a api.Addr, i int) {
	if !plainIsOne(a) {
		return
	}
	if at := m.find(a); at >= 0 {
		m.table[at] = entry{a, i, 0}
		return
	}
	if len(m.table) < m.conf.Table {
		m.table = append(m.table, entry{a, i, 0})
	}
}

// goesOn: data that a port heard.
func (m *model) goesOn(in int, f api.Frame) []api.Out {
	where, known := m.lookup(f.To)
	var out []api.Out
	for i, s := range m.states() {
		if i == in || s != forwarding || m.view.Ports[in].State != forwarding {
			continue
		}
		if plainGroup(f.To) || !known || i == where {
			g := f
			g.Data = slices.Clone(f.Data)
			out = append(out, api.Out{Port: i, Frame: g})
		}
	}
	return out
}

func (m *model) turn(i int, on bool) []api.Out {
	if on {
		return m.now(plainOn(m.view, i))
	}
	m.table = slices.DeleteFunc(m.table, func(x entry) bool { return x.port == i })
	return m.now(plainOff(m.view, i))
}
