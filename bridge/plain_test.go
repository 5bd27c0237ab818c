package bridge_test

import (
	"encoding/binary"

	"treeline/api"
	"treeline/rank"
	"treeline/tree"
)

// A plain reading of chapters 5 and 9 to 17, which asks no layer.

// A configuration is what a port's configuration tells, number by number.
type configuration struct {
	change, ack               bool
	root                      uint64
	cost                      uint32
	bridge                    uint64
	port                      uint16
	age, maxAge, hello, delay uint16
}

// bytes are a configuration's bytes.
func (c configuration) bytes() []byte {
	b := []byte{0, 0, 0, 0, 0}
	if c.change {
		b[4] += 1
	}
	if c.ack {
		b[4] += 0x80
	}
	b = binary.BigEndian.AppendUint64(b, c.root)
	b = binary.BigEndian.AppendUint32(b, c.cost)
	b = binary.BigEndian.AppendUint64(b, c.bridge)
	for _, n := range []uint16{c.port, c.age, c.maxAge, c.hello, c.delay} {
		b = binary.BigEndian.AppendUint16(b, n)
	}
	return b
}

// out is how it goes out by the port at a place.
func (c configuration) out(place int) api.Out {
	return plainOut(place, c.bridge, c.bytes())
}

// plainOut is how a Bpdu goes out by a port of the bridge of that number.
func plainOut(place int, bridge uint64, b []byte) api.Out {
	data := append([]byte{0x42, 0x42, 3}, b...)
	return api.Out{Port: place, Frame: api.Frame{To: 0x0180c2000000, From: api.Addr(bridge % (1 << 48)), Kind: uint16(len(data)), Data: data}}
}

// plainPut answers a Bpdu's bytes.
func plainPut(x api.Bpdu) []byte {
	if x.Tcn {
		return []byte{0, 0, 0, 0x80}
	}
	return configuration{
		change: x.Change, ack: x.Ack,
		root: uint64(x.Root), cost: x.Cost, bridge: uint64(x.Bridge), port: uint16(x.Port),
		age: x.Age, maxAge: x.MaxAge, hello: x.Hello, delay: x.Delay,
	}.bytes()
}

// configured is what the port at a place tells, but for the Age.
func configured(x tree.Tree, i int) configuration {
	return configuration{
		change: x.Change, ack: x.Ports[i].Ack,
		root: uint64(x.Root), cost: x.Cost, bridge: uint64(x.Own), port: uint16(x.Ports[i].Id),
		maxAge: plainField(x.Now.MaxAge), hello: plainField(x.Now.Hello), delay: plainField(x.Now.Delay),
	}
}

func plainField(t int) uint16 {
	if t < 0 {
		return 0
	}
	if t > 65535 {
		return 65535
	}
	return uint16(t)
}

func isPlace(x tree.Tree, i int) bool {
	return 0 <= i && i < len(x.Ports)
}

// Chapters 10, 12 and 13.

// less tells whether the first numbers that are unlike are so that the first list's is less.
func less(a, b []uint64) bool {
	for i := range a {
		if a[i] != b[i] {
			return a[i] < b[i]
		}
	}
	return false
}

func plainDesignated(x tree.Tree, i int) bool {
	p := x.Ports[i]
	return p.Held.Bridge == x.Own && p.Held.Port == p.Id
}

// plainBecome lets the port at a place hold what the view tells.
func plainBecome(x tree.Tree, i int) tree.Tree {
	x = own(x)
	x.Ports[i].Held = rank.Vector{Root: x.Root, Cost: x.Cost, Bridge: x.Own, Port: x.Ports[i].Id}
	return x
}

// plainTakes tells whether a configuration takes the place of what a port holds.
func plainTakes(x tree.Tree, i int, b api.Bpdu) bool {
	held := x.Ports[i].Held
	tells := []uint64{uint64(b.Root), uint64(b.Cost), uint64(b.Bridge)}
	holds := []uint64{uint64(held.Root), uint64(held.Cost), uint64(held.Bridge)}
	if less(tells, holds) || less(holds, tells) {
		return less(tells, holds)
	}
	return b.Bridge != x.Own || b.Port <= held.Port
}

// plainWay is what a port holds, via its Cost, and its Id: the least one leads.
func plainWay(p api.Port) []uint64 {
	far := min(uint64(p.Held.Cost)+uint64(p.Cost), 1<<32-1)
	return []uint64{uint64(p.Held.Root), far, uint64(p.Held.Bridge), uint64(p.Held.Port), uint64(p.Id)}
}

func plainSelect(x tree.Tree) tree.Tree {
	x = own(x)
	x.RootPort, x.Root, x.Cost = -1, x.Own, 0
	for i, p := range x.Ports {
		if plainDesignated(x, i) || p.State == disabled || p.Held.Root >= x.Own {
			continue
		}
		if way := plainWay(p); x.RootPort < 0 || less(way, plainWay(x.Ports[x.RootPort])) {
			x.RootPort, x.Root, x.Cost = i, p.Held.Root, uint32(way[1])
		}
	}
	return x
}

func plainDesignate(x tree.Tree) tree.Tree {
	x = own(x)
	for i, p := range x.Ports {
		tells := []uint64{uint64(x.Root), uint64(x.Cost), uint64(x.Own), uint64(p.Id)}
		holds := []uint64{uint64(p.Held.Root), uint64(p.Held.Cost), uint64(p.Held.Bridge), uint64(p.Held.Port)}
		if plainDesignated(x, i) || p.Held.Root != x.Root || !less(holds, tells) {
			x.Ports[i].Held = rank.Vector{Root: x.Root, Cost: x.Cost, Bridge: x.Own, Port: p.Id}
		}
	}
	return x
}

func plainStates(x tree.Tree) (tree.Tree, bool) {
	x = own(x)
	lost := false
	for i := range x.Ports {
		p := &x.Ports[i]
		leads, designated := i == x.RootPort, plainDesignated(x, i)
		if leads || !designated {
			p.Pending, p.Ack = false, false
		} else {
			p.Age = rests
		}
		if leads || designated {
			if p.State == blocking {
				p.State, p.Delay = listening, runs(0)
			}
			continue
		}
		if p.State == learning || p.State == forwarding {
			lost = true
		}
		if p.State != disabled && p.State != blocking {
			p.State, p.Delay = blocking, rests
		}
	}
	return x, lost
}

// Chapter 14.

func plainAge(x tree.Tree) uint16 {
	if x.Root == x.Own || !isPlace(x, x.RootPort) {
		return 0
	}
	return plainField(x.Ports[x.RootPort].Age.Value + 256)
}

func plainTell(x tree.Tree, i int) (tree.Tree, []api.Out) {
	x = own(x)
	p := &x.Ports[i]
	if p.Hold.On {
		p.Pending = true
		return x, nil
	}
	c := configured(x, i)
	c.age = plainAge(x)
	if int(c.age) >= x.Now.MaxAge {
		return x, nil
	}
	p.Pending, p.Ack, p.Hold = false, false, runs(0)
	return x, []api.Out{c.out(i)}
}

func plainTellAll(x tree.Tree) (tree.Tree, []api.Out) {
	var out []api.Out
	for i := range x.Ports {
		if x.Ports[i].State != disabled && plainDesignated(x, i) {
			var more []api.Out
			x, more = plainTell(x, i)
			out = append(out, more...)
		}
	}
	return own(x), out
}

func plainSendTcn(x tree.Tree) []api.Out {
	if !isPlace(x, x.RootPort) {
		return nil
	}
	return []api.Out{plainOut(x.RootPort, uint64(x.Own), []byte{0, 0, 0, 0x80})}
}

func plainDetect(x tree.Tree) (tree.Tree, []api.Out) {
	if x.Root == x.Own {
		x.Change, x.Detected, x.Told = true, true, runs(0)
		return x, nil
	}
	if x.Detected {
		return x, nil
	}
	x.Detected, x.Tcn = true, runs(0)
	return x, plainSendTcn(x)
}

// Chapter 15.

func plainSettle(x tree.Tree) (tree.Tree, []api.Out) {
	x, lost := plainStates(plainDesignate(plainSelect(x)))
	if lost {
		return plainDetect(x)
	}
	return x, nil
}

func plainLead(x tree.Tree) (tree.Tree, []api.Out) {
	x.Now = x.Mine
	x, first := plainDetect(x)
	x.Tcn = rests
	x, then := plainTellAll(x)
	x.Hello = runs(0)
	return x, append(first, then...)
}

func plainConfig(x tree.Tree, i int, b api.Bpdu) (tree.Tree, []api.Out) {
	x = own(x)
	if !isPlace(x, i) || x.Ports[i].State == disabled {
		return x, nil
	}
	if !plainTakes(x, i, b) {
		if plainDesignated(x, i) {
			return plainTell(x, i)
		}
		return x, nil
	}
	was := x.Root == x.Own
	x.Ports[i].Held = rank.Vector{Root: b.Root, Cost: b.Cost, Bridge: b.Bridge, Port: b.Port}
	x.Ports[i].Age = runs(int(b.Age))
	x, out := plainSettle(x)
	if was && x.Root != x.Own {
		x.Hello = rests
		if x.Detected {
			x.Told, x.Tcn = rests, runs(0)
			out = append(out, plainSendTcn(x)...)
		}
	}
	if i == x.RootPort {
		x.Now = tree.Times{MaxAge: int(b.MaxAge), Hello: int(b.Hello), Delay: int(b.Delay)}
		x.Change = b.Change
		y, all := plainTellAll(x)
		x, out = y, append(out, all...)
		if b.Ack {
			x.Detected, x.Tcn = false, rests
		}
	}
	return x, out
}

func plainTcn(x tree.Tree, i int) (tree.Tree, []api.Out) {
	x = own(x)
	if !isPlace(x, i) || x.Ports[i].State == disabled || !plainDesignated(x, i) {
		return x, nil
	}
	x, first := plainDetect(x)
	x.Ports[i].Ack = true
	x, then := plainTell(x, i)
	return x, append(first, then...)
}

// plainRead answers what bytes tell to a port, and what is wrong with them.
func plainRead(b []byte, bridge api.BridgeId, port api.PortId) (api.Bpdu, api.Errno) {
	if len(b) < 4 {
		return api.Bpdu{}, errShort
	}
	if b[0] != 0 || b[1] != 0 || b[2] != 0 || b[3] != 0 && b[3] != 0x80 {
		return api.Bpdu{}, errForm
	}
	if b[3] == 0x80 {
		return api.Bpdu{Tcn: true}, fine
	}
	if len(b) < 35 {
		return api.Bpdu{}, errShort
	}
	short := func(at int) uint16 { return binary.BigEndian.Uint16(b[at:]) }
	x := api.Bpdu{
		Change: b[4]&1 != 0, Ack: b[4]&0x80 != 0,
		Root: api.BridgeId(binary.BigEndian.Uint64(b[5:])), Cost: binary.BigEndian.Uint32(b[13:]),
		Bridge: api.BridgeId(binary.BigEndian.Uint64(b[17:])), Port: api.PortId(short(25)),
		Age: short(27), MaxAge: short(29), Hello: short(31), Delay: short(33),
	}
	switch {
	case x.Cost >= 1<<31:
		return api.Bpdu{}, errLong
	case x.Age >= x.MaxAge:
		return api.Bpdu{}, errAge
	case x.Bridge == bridge && x.Port == port:
		return api.Bpdu{}, errOwn
	}
	return x, fine
}

func plainBytes(x tree.Tree, i int, b []byte) (tree.Tree, []api.Out, api.Errno) {
	if !isPlace(x, i) || x.Ports[i].State == disabled {
		return x, nil, errNone
	}
	c, e := plainRead(b, x.Own, x.Ports[i].Id)
	if e != fine {
		return x, nil, e
	}
	if c.Tcn {
		y, out := plainTcn(x, i)
		return y, out, fine
	}
	y, out := plainConfig(x, i, c)
	return y, out, fine
}

// Chapter 16.

// plainFire lets a timer fire; whether it ran out.
func plainFire(timer *api.Timer, limit int) bool {
	if !timer.On {
		return false
	}
	timer.Value = min(timer.Value+256, longest)
	if timer.Value < limit {
		return false
	}
	*timer = rests
	return true
}

// Which timers ran out: the bridge's, and those of the ports, place by place.
type ranOut struct {
	hello, tcn, told bool
	delay, age, hold []bool
}

// plainFires lets all timers fire.
func plainFires(x tree.Tree) (tree.Tree, ranOut) {
	x = own(x)
	r := ranOut{
		hello: plainFire(&x.Hello, x.Now.Hello),
		tcn:   plainFire(&x.Tcn, x.Mine.Hello),
		told:  plainFire(&x.Told, x.Mine.MaxAge+x.Mine.Delay),
	}
	for i := range x.Ports {
		p := &x.Ports[i]
		r.delay = append(r.delay, plainFire(&p.Delay, x.Now.Delay))
		r.age = append(r.age, plainFire(&p.Age, x.Now.MaxAge))
		r.hold = append(r.hold, plainFire(&p.Hold, 256))
	}
	return x, r
}

func plainTick(x tree.Tree) (tree.Tree, []api.Out) {
	x, r := plainFires(x)
	var out []api.Out
	then := func(y tree.Tree, more []api.Out) {
		x, out = y, append(out, more...)
	}
	if r.hello {
		then(plainTellAll(x))
		x.Hello = runs(0)
	}
	if r.tcn {
		then(x, plainSendTcn(x))
		x.Tcn = runs(0)
	}
	if r.told {
		x.Detected, x.Change = false, false
	}
	for i := range x.Ports {
		if r.delay[i] {
			then(plainGoesOn(x, i))
		}
	}
	for i := range x.Ports {
		if r.age[i] {
			then(plainForgets(x, i))
		}
	}
	for i := range x.Ports {
		if r.hold[i] && x.Ports[i].Pending {
			then(plainTell(x, i))
		}
	}
	return x, out
}

func plainGoesOn(x tree.Tree, i int) (tree.Tree, []api.Out) {
	x = own(x)
	p := &x.Ports[i]
	switch p.State {
	case listening:
		p.State, p.Delay = learning, runs(0)
	case learning:
		p.State = forwarding
		for _, q := range x.Ports {
			if q.Held.Bridge == x.Own {
				return plainDetect(x)
			}
		}
	}
	return x, nil
}

func plainForgets(x tree.Tree, i int) (tree.Tree, []api.Out) {
	was := x.Root == x.Own
	x, out := plainSettle(plainBecome(x, i))
	if was || x.Root != x.Own {
		return x, out
	}
	x, more := plainLead(x)
	return x, append(out, more...)
}

// Chapter 17.

// plainRest puts the port at a place to rest in a state.
func plainRest(x tree.Tree, i, state int) tree.Tree {
	x = own(x)
	p := &x.Ports[i]
	p.State = state
	p.Held = rank.Vector{Root: x.Root, Cost: x.Cost, Bridge: x.Own, Port: p.Id}
	p.Ack, p.Pending = false, false
	p.Age, p.Delay, p.Hold = rests, rests, rests
	return x
}

// plainAgain lets a view settle again behind a change; was is the view ahead of that.
func plainAgain(was, x tree.Tree) (tree.Tree, []api.Out) {
	x, out := plainSettle(x)
	if x.Root != x.Own || was.Root == was.Own {
		return x, out
	}
	x, more := plainLead(x)
	return x, append(out, more...)
}

func plainOn(x tree.Tree, i int) (tree.Tree, []api.Out) {
	if !isPlace(x, i) || x.Ports[i].State != disabled {
		return x, nil
	}
	x, lost := plainStates(plainRest(x, i, blocking))
	if !lost {
		return x, nil
	}
	return plainDetect(x)
}

func plainOff(x tree.Tree, i int) (tree.Tree, []api.Out) {
	if !isPlace(x, i) || x.Ports[i].State == disabled {
		return x, nil
	}
	return plainAgain(x, plainRest(x, i, disabled))
}
