package tunnel_test

import (
	"cmp"
	"fmt"
	"math"
	"slices"
	"strings"
	"testing"

	"bitcast/api"
	"bitcast/shortest"
	"bitcast/table"
	"bitcast/topology"
	"bitcast/trace"
	"bitcast/tunnel"
)

// lengths has the lengths of bit strings.
var lengths = []int{8, 16, 32, 64}

// row returns a row with these next hops.
func row(id int, next ...int) api.Row { return api.Row{ID: id, Next: next} }

// of returns a table of the subdomain 3 with these rows.
func of(router, length int, rows ...api.Row) api.Table {
	return api.Table{Router: router, Subdomain: 3, Length: length, Rows: rows}
}

// copied returns equal tables with memory of their own.
func copied(l []api.Table) []api.Table {
	c := slices.Clone(l)
	for i, b := range l {
		c[i].Rows = nil
		for _, r := range b.Rows {
			c[i].Rows = append(c[i].Rows, api.Row{ID: r.ID, Next: slices.Clone(r.Next)})
		}
	}
	return c
}

// strange returns valid tables of n routers that know nothing of each other. A row has the router itself, nothing, or up to most of the routers from 1 to greatest.
func strange(next func(int) int, n, length, greatest, most, own int) []api.Table {
	var l []api.Table
	subdomain := next(8)
	for _, router := range some(next, n, greatest) {
		b := api.Table{Router: router, Subdomain: subdomain, Length: length}
		for id := 1; id <= 256 && id <= 3*length; id++ {
			switch next(40) {
			case 0:
				continue
			case 1:
				b.Rows = append(b.Rows, row(id))
				continue
			}
			r := row(id, router)
			if next(own) > 0 {
				r.Next = slices.DeleteFunc(some(next, 1+next(most), greatest), func(hop int) bool { return hop == router })
			}
			b.Rows = append(b.Rows, r)
		}
		l = append(l, b)
	}
	return l
}

// some returns n different numbers from 1 to greatest, ascending.
func some(next func(int) int, n, greatest int) []int {
	var l []int
	for len(l) < n {
		if r := 1 + next(greatest); !slices.Contains(l, r) {
			l = append(l, r)
		}
	}
	slices.Sort(l)
	return l
}

// circling returns tables of 24 routers, through which packets with the length 64 never end but by their TTL, and bits go apart and together again.
func circling() []api.Table {
	var l []api.Table
	for i := range 24 {
		b := of(1+i, 64)
		for id := 1; id <= 256; id++ {
			var hops []int
			for k := range 24 {
				if k != i && (k*7+id*(i+3))%(2+id%5) == 0 {
					hops = append(hops, 1+k)
				}
			}
			b.Rows = append(b.Rows, row(id, hops...))
		}
		l = append(l, b)
	}
	return l
}

// planFor returns a plan with the routers of a topology, thinned out, in any order, and with others.
func planFor(next func(int) int, t api.Topology, thin int) api.Plan {
	p := api.Plan{Subdomain: next(8), Length: lengths[next(4)]}
	var routers []int
	for _, r := range t.Routers {
		if next(thin) == 0 {
			routers = slices.Insert(routers, next(len(routers)+1), r.ID)
		}
	}
	for _, n := range []int{1, 50, 98, 99} {
		if len(routers) < 24 && !slices.Contains(routers, n) && next(2) == 0 {
			routers = slices.Insert(routers, next(len(routers)+1), n)
		}
	}
	id := 0
	for _, r := range routers {
		id += 1 + next(10)
		p.Edges = append(p.Edges, api.Edge{Router: r, ID: id})
	}
	return p
}

// domain is a topology with a plan, and the tables for both.
type domain struct {
	topology api.Topology
	plan     api.Plan
	tables   []api.Table
}

// domains returns domains of many kinds.
func domains() []domain {
	next := random(41)
	var l []domain
	add := func(n api.Topology) {
		p := planFor(next, n, 1+next(2))
		tables, e := table.All(n, p)
		if e != api.OK {
			panic("these tables are not valid")
		}
		l = append(l, domain{n, p, tables})
	}
	for n := 1; n <= 24; n += 1 + n/4 {
		for _, plain := range []int{0, 2, 5, 7, 9} {
			for _, dear := range []int{1, 2, 1000} {
				add(meshed(next, apart(n, 1+next(4)), 1+next(1+n/4), dear, plain))
			}
		}
	}
	for _, n := range []api.Topology{layered(1, 0), layered(3, 1), layered(5, 2), chain(24, upTo(2, 22)), chain(24, []int{2, 3, 9, 10, 11, 23})} {
		add(n)
	}
	return l
}

// randomPacket returns a valid packet of the subdomain and the length of a table, with this set.
func randomPacket(next func(int) int, b api.Table, set int) api.Packet {
	bits := uint64(next(1<<31))<<62 ^ uint64(next(1<<31))<<31 ^ uint64(next(1<<31))
	return api.Packet{
		Mode: api.ModeIndexed + 2*next(2), Subdomain: b.Subdomain, Set: set, Length: b.Length, TTL: next(64), Entropy: next(1024),
		Ingress: next(257), Proto: next(8), Bits: bits >> (64 - b.Length), Payload: strings.Repeat(string(rune('a'+next(26))), next(65)),
	}
}

// find returns the table of a router.
func find(l []api.Table, router int) (api.Table, bool) {
	for _, b := range l {
		if b.Router == router {
			return b, true
		}
	}
	return api.Table{}, false
}

// hop returns the next hop for an identifier in a plane, by the definition, from a valid table.
func hop(b api.Table, id, plane int) int {
	for _, r := range b.Rows {
		if r.ID == id && len(r.Next) > 0 {
			return r.Next[plane%len(r.Next)]
		}
	}
	return 0
}

// same reports whether two traces are equal.
func same(a, b api.Trace) bool {
	return slices.Equal(a.Deliveries, b.Deliveries) && slices.Equal(a.Crossings, b.Crossings) && slices.Equal(a.Losses, b.Losses)
}

// isZero reports whether a trace is the zero trace.
func isZero(t api.Trace) bool { return same(t, api.Trace{}) }

// arrived returns a delivery of a packet with one bit and this TTL.
func arrived(p api.Packet, router, bit, ttl int) api.Delivery {
	p.Bits, p.TTL = 1<<bit, ttl
	return api.Delivery{Router: router, Packet: p}
}

// wrongLists returns lists of tables that are not valid together, for all reasons, all of which have a table of the router 50.
func wrongLists(length int) [][]api.Table {
	spoilers := []func(l []api.Table){
		func(l []api.Table) { l[0].Router = 0 },
		func(l []api.Table) { l[2].Router = 100 },
		func(l []api.Table) { l[0].Router = 50 },
		func(l []api.Table) { l[2].Router = 50 },
		func(l []api.Table) { l[0].Router = 51 },
		func(l []api.Table) { l[0], l[1] = l[1], l[0] },
		func(l []api.Table) { l[0].Subdomain = 2 },
		func(l []api.Table) { l[2].Subdomain = 8 },
		func(l []api.Table) { l[2].Subdomain = 4 },
		func(l []api.Table) { l[2].Length = 0 },
		func(l []api.Table) { l[0].Length = 24 },
		func(l []api.Table) { l[2].Length = 72 - length },
		func(l []api.Table) { l[0].Length, l[0].Rows = 0, nil },
		func(l []api.Table) { l[1].Rows[0].ID = 0 },
		func(l []api.Table) { l[2].Rows[1].ID = 257 },
		func(l []api.Table) { l[0].Rows[1].Next = []int{100} },
		func(l []api.Table) { l[2].Rows[0].Next = []int{0} },
		func(l []api.Table) { l[2].Rows[0].Next = upTo(50, 25) },
		func(l []api.Table) { l[1].Rows[0].ID = 3 },
		func(l []api.Table) { l[0].Rows[0].Next = []int{3, 2} },
		func(l []api.Table) { l[2].Rows[0].Next = []int{60, 61} },
	}
	for _, n := range far {
		spoilers = append(spoilers, func(l []api.Table) { l[2].Router = n }, func(l []api.Table) { l[0].Subdomain = n }, func(l []api.Table) { l[2].Length = n })
		spoilers = append(spoilers, func(l []api.Table) { l[2].Rows[0].ID = n }, func(l []api.Table) { l[0].Rows[0].Next[0] = n })
	}
	var l [][]api.Table
	for _, spoil := range spoilers {
		one := []api.Table{of(40, length, row(1, 50), row(2, 41)), of(50, length, row(1, 50), row(2, 40)), of(60, length, row(1, 50), row(3, 60))}
		spoil(one)
		l = append(l, one)
	}
	var many []api.Table
	for router := 50; router < 75; router++ {
		many = append(many, of(router, length, row(1, 50)))
	}
	return append(l, many)
}

// right returns a valid packet of the subdomain 3.
func right(length int) api.Packet {
	return api.Packet{Mode: api.ModeIndexed, Subdomain: 3, Length: length, TTL: 9, Entropy: 3, Ingress: 1, Proto: 1, Bits: 255, Payload: "x"}
}

// wrongPackets returns packets that are not valid, for all reasons.
func wrongPackets(length int) []api.Packet {
	var l []api.Packet
	add := func(spoil func(p *api.Packet)) {
		p := right(length)
		spoil(&p)
		l = append(l, p)
	}
	for _, spoil := range []func(p *api.Packet){
		func(p *api.Packet) { *p = api.Packet{} },
		func(p *api.Packet) { p.Mode = 0 }, func(p *api.Packet) { p.Mode = 4 }, func(p *api.Packet) { p.Subdomain = 8 },
		func(p *api.Packet) { p.Set = 32 }, func(p *api.Packet) { p.Length = 0 }, func(p *api.Packet) { p.Length = 24 },
		func(p *api.Packet) { p.TTL = 64 }, func(p *api.Packet) { p.Ingress = 257 }, func(p *api.Packet) { p.Proto = 8 },
		func(p *api.Packet) { p.Payload = strings.Repeat("x", 65) },
	} {
		add(spoil)
	}
	if length < 64 {
		add(func(p *api.Packet) { p.Bits = 1 << length })
		add(func(p *api.Packet) { p.Bits |= 1 << 63 })
	}
	for _, n := range far {
		for _, spoil := range []func(p *api.Packet){
			func(p *api.Packet) { p.Mode = n }, func(p *api.Packet) { p.Subdomain = n }, func(p *api.Packet) { p.Set = n }, func(p *api.Packet) { p.Length = n },
			func(p *api.Packet) { p.TTL = n }, func(p *api.Packet) { p.Entropy = n }, func(p *api.Packet) { p.Ingress = n }, func(p *api.Packet) { p.Proto = n },
		} {
			add(spoil)
		}
	}
	return l
}

// ends returns how often each bit is in a delivery or a loss.
func ends(x api.Trace) [64]int {
	var times [64]int
	for bit := range 64 {
		for _, d := range x.Deliveries {
			times[bit] += int(d.Packet.Bits >> bit % 2)
		}
		for _, loss := range x.Losses {
			times[bit] += int(loss.Bits >> bit % 2)
		}
	}
	return times
}

// chainOf returns the routers to which a bit has crossed, one after another, and false if these crossings do not follow each other.
func chainOf(x api.Trace, router, bit int) ([]int, bool) {
	var chain []int
	at := router
	for _, c := range x.Crossings {
		if c.Bits>>bit%2 == 0 {
			continue
		}
		if c.From != at || c.To == at {
			return nil, false
		}
		at = c.To
		chain = append(chain, at)
	}
	return chain, true
}

// wild is a topology with tables that know nothing of it.
type wild struct {
	topology api.Topology
	tables   []api.Table
}

// wilds returns tables that may lead anywhere, in circles, to routers without tables, and nowhere, with topologies that have most of their routers.
func wilds() []wild {
	next := random(14)
	var l []wild
	add := func(tables []api.Table) {
		var routers []int
		for _, b := range tables {
			if next(12) > 0 {
				routers = append(routers, b.Router)
			}
		}
		for _, b := range tables {
			for _, r := range b.Rows {
				if len(r.Next) > 0 && len(routers) < 24 && !slices.Contains(routers, r.Next[0]) {
					routers = append(routers, r.Next[0])
				}
			}
		}
		slices.Sort(routers)
		l = append(l, wild{meshed(next, routers, 1+next(1+len(routers)/5), 1+next(3), 4+3*next(3)), tables})
	}
	for _, length := range lengths {
		for _, own := range []int{2, 9, 40, 1 << 30} {
			add(strange(next, 4, length, 4, 1, own))
			add(strange(next, 5, length, 6, 3, own))
			add(strange(next, 12, length, 99, 9, own))
			add(strange(next, 24, length, 25, 6, own))
			add(strange(next, 9, length, 24, 20, own))
		}
	}
	return append(l, wild{chain(24, upTo(1, 24)), circling()}, wild{layered(5, 0), circling()}, wild{api.Topology{}, circling()})
}

// kinds returns all domains and wilds.
func kinds() []wild {
	l := wilds()
	for _, d := range domains() {
		l = append(l, wild{d.topology, d.tables})
	}
	return l
}

// maker returns a function for what a router makes of a valid frame, by the definition; what has come to a router without a table, and has no route, is lost.
func maker(w wild) func(router int, f api.Frame) api.Outcome {
	links, route := linkCosts(w.topology), routesOf(w.topology)
	return func(router int, f api.Frame) api.Outcome {
		p := f.Packet
		if len(f.Route) > 0 {
			if _, ok := links[api.Hop{From: router, To: f.Route[0]}]; !ok {
				return api.Outcome{Lost: p.Bits}
			}
			return api.Outcome{Copies: []api.Copy{{To: f.Route[0], Frame: api.Frame{Route: f.Route[1:], Packet: p}}}}
		}
		b, ok := find(w.tables, router)
		if !ok {
			return api.Outcome{Lost: p.Bits}
		}
		var o api.Outcome
		var hops []int
		for k := range p.Length {
			if p.Bits>>k%2 == 0 {
				continue
			}
			next := hop(b, p.Set*p.Length+k+1, p.Entropy%8)
			ways := route(router, next)
			switch {
			case next == router:
				o.Local += 1 << k
				continue
			case len(ways) == 0 || p.TTL == 0:
				o.Lost += 1 << k
				continue
			case !slices.Contains(hops, next):
				q := p
				q.Bits, q.TTL = 0, p.TTL-1
				hops = append(hops, next)
				o.Copies = append(o.Copies, api.Copy{To: ways[0], Frame: api.Frame{Route: ways[1:], Packet: q}})
			}
			o.Copies[slices.Index(hops, next)].Frame.Packet.Bits += 1 << k
		}
		return o
	}
}

// ran returns what becomes of a packet, by the definition: all frames that have crossed so many links are handled before those that have crossed more.
func ran(made func(router int, f api.Frame) api.Outcome, p api.Packet, router int) api.Trace {
	var t api.Trace
	from := []int{router}
	level := []api.Frame{{Packet: p}}
	for len(level) > 0 {
		var to []int
		var behind []api.Frame
		for i, f := range level {
			o := made(from[i], f)
			for k := range p.Length {
				if o.Local>>k%2 == 1 {
					t.Deliveries = append(t.Deliveries, arrived(f.Packet, from[i], k, f.Packet.TTL))
				}
			}
			if o.Lost != 0 {
				t.Losses = append(t.Losses, api.Loss{Router: from[i], Bits: o.Lost})
			}
			for _, c := range o.Copies {
				t.Crossings = append(t.Crossings, api.Crossing{From: from[i], To: c.To, Bits: c.Frame.Packet.Bits})
				to, behind = append(to, c.To), append(behind, c.Frame)
			}
		}
		from, level = to, behind
	}
	return t
}

// sameOutcome reports whether two outcomes are equal.
func sameOutcome(a, b api.Outcome) bool {
	return a.Local == b.Local && a.Lost == b.Lost && slices.EqualFunc(a.Copies, b.Copies, sameCopy)
}

// P16.3, P16.4: the chapter's example, with all TTLs.
func TestExample(t *testing.T) {
	n := chain(3, []int{2})
	l, e := table.All(n, api.Plan{Length: 8, Edges: []api.Edge{{Router: 3, ID: 1}}})
	if e != api.OK {
		t.Fatalf("All is %d", e)
	}
	for ttl := range 64 {
		p := api.Packet{Mode: api.ModeIndexed, Length: 8, TTL: ttl, Bits: 1, Payload: "hi"}
		want := api.Trace{
			Deliveries: []api.Delivery{arrived(p, 3, 0, ttl-1)},
			Crossings:  []api.Crossing{{From: 1, To: 2, Bits: 1}, {From: 2, To: 3, Bits: 1}},
		}
		if ttl == 0 {
			want = api.Trace{Losses: []api.Loss{{Router: 1, Bits: 1}}}
		}
		if got, e := tunnel.Run(n, l, p, 1); e != api.OK || !same(got, want) {
			t.Errorf("with the TTL %d, the trace is %v, %d, not %v", ttl, got, e, want)
		}
		if ttl == 0 {
			continue
		}
		q := p
		q.TTL = ttl - 1
		for router, c := range []struct {
			f    api.Frame
			want api.Outcome
		}{
			{api.Frame{Packet: p}, api.Outcome{Copies: []api.Copy{{To: 2, Frame: api.Frame{Route: []int{3}, Packet: q}}}}},
			{api.Frame{Route: []int{3}, Packet: q}, api.Outcome{Copies: []api.Copy{{To: 3, Frame: api.Frame{Packet: q}}}}},
			{api.Frame{Packet: q}, api.Outcome{Local: 1}},
		} {
			if got, e := tunnel.Step(n, l, router+1, c.f); e != api.OK || !sameOutcome(got, c.want) {
				t.Errorf("the step of %d is %v, %d, not %v", router+1, got, e, c.want)
			}
		}
	}
}

// roads returns a topology in which 2, 3, 5 and 6 are not capable, and tables for it: from 1, the routers 4 and 9 are behind 2, and 7 is behind 3 and 5. There are no ways to 8 and 10.
func roads() (api.Topology, []api.Table) {
	n := net(9, []int{2, 3, 5, 6}, even(1, 2), even(1, 3), even(2, 4), even(2, 9), even(3, 5), even(4, 6), even(4, 9), even(5, 7), even(6, 7))
	return n, []api.Table{
		of(1, 16, row(1, 4), row(2, 7), row(3, 1), row(4, 8), row(5), row(6, 4, 7), row(7, 10), row(8, 2), row(9, 9), row(11, 1), row(12, 5), row(13, 4), row(17, 7)),
		of(4, 16, row(1, 4), row(2, 7), row(6, 4), row(9, 1), row(13, 7)),
		of(7, 16, row(2, 7), row(12, 7), row(13, 1)),
		of(9, 16, row(1, 9), row(9, 9)),
	}
}

// P16.3: known steps, of frames with a route and without one.
func TestStepKnown(t *testing.T) {
	n, l := roads()
	with := func(ttl int, bits uint64, route ...int) api.Frame {
		p := right(16)
		p.TTL, p.Entropy, p.Bits = ttl, 0, bits
		return api.Frame{Route: route, Packet: p}
	}
	sent := func(to int, f api.Frame) api.Copy { return api.Copy{To: to, Frame: f} }
	for i, c := range []struct {
		router int
		f      api.Frame
		want   api.Outcome
	}{
		// A route is followed by all routers, whatever they are and have, as far as there are links. The TTL stays.
		{2, with(5, 9, 4), api.Outcome{Copies: []api.Copy{sent(4, with(5, 9))}}},
		{3, with(5, 9, 5, 7), api.Outcome{Copies: []api.Copy{sent(5, with(5, 9, 7))}}},
		{1, with(5, 1, 2, 4), api.Outcome{Copies: []api.Copy{sent(2, with(5, 1, 4))}}},
		{1, with(5, 4, 2), api.Outcome{Copies: []api.Copy{sent(2, with(5, 4))}}},
		{7, with(0, 9, 6, 7, 98, 99), api.Outcome{Copies: []api.Copy{sent(6, with(0, 9, 7, 98, 99))}}},
		{2, with(0, 9, 1, 2), api.Outcome{Copies: []api.Copy{sent(1, with(0, 9, 2))}}},
		{2, with(5, 0, 4), api.Outcome{Copies: []api.Copy{sent(4, with(5, 0))}}},
		{1, with(5, 9, 4), api.Outcome{Lost: 9}}, {1, with(5, 12, 1, 2), api.Outcome{Lost: 12}}, {2, with(5, 9, 3, 4), api.Outcome{Lost: 9}},
		{8, with(5, 9, 1), api.Outcome{Lost: 9}}, {4, with(5, 9, 99), api.Outcome{Lost: 9}}, {4, with(5, 4, 8), api.Outcome{Lost: 4}}, {8, with(5, 0, 1), api.Outcome{}},
		// Without a route, the table says what goes where; copies with other ends stay apart, though they begin alike.
		{1, with(5, 1), api.Outcome{Copies: []api.Copy{sent(2, with(4, 1, 4))}}},
		{1, with(5, 2), api.Outcome{Copies: []api.Copy{sent(3, with(4, 2, 5, 7))}}},
		{1, with(5, 1<<8|1<<0|1<<12), api.Outcome{Copies: []api.Copy{sent(2, with(4, 1|1<<12, 4)), sent(2, with(4, 1<<8, 9))}}},
		{1, with(5, 1<<1|1<<7|1<<11), api.Outcome{Copies: []api.Copy{sent(3, with(4, 2, 5, 7)), sent(2, with(4, 1<<7)), sent(3, with(4, 1<<11, 5))}}},
		{1, with(5, 1<<2|1<<10), api.Outcome{Local: 1<<2 | 1<<10}},
		{1, with(5, 1<<3|1<<4|1<<6|1<<15), api.Outcome{Lost: 1<<3 | 1<<4 | 1<<6 | 1<<15}},
		{1, with(5, 1<<3), api.Outcome{Lost: 1 << 3}}, {1, with(5, 1<<6), api.Outcome{Lost: 1 << 6}},
		{1, with(5, 0xffff), api.Outcome{Local: 1<<2 | 1<<10, Lost: 1<<3 | 1<<4 | 1<<6 | 1<<9 | 1<<13 | 1<<14 | 1<<15,
			Copies: []api.Copy{sent(2, with(4, 1|1<<5|1<<12, 4)), sent(3, with(4, 2, 5, 7)), sent(2, with(4, 1<<7)), sent(2, with(4, 1<<8, 9)), sent(3, with(4, 1<<11, 5))}}},
		{1, with(0, 1<<0|1<<2|1<<3), api.Outcome{Local: 1 << 2, Lost: 1<<0 | 1<<3}},
		{4, with(1, 1<<8), api.Outcome{Copies: []api.Copy{sent(2, with(0, 1<<8, 1))}}},
		{1, with(5, 0), api.Outcome{}},
	} {
		if got, e := tunnel.Step(n, l, c.router, c.f); e != api.OK || !sameOutcome(got, c.want) {
			t.Errorf("%d: the step of %d is\n%v, %d, not\n%v", i, c.router, got, e, c.want)
		}
	}
}

// anyRoute returns a route of up to most routers, each of which is most often a neighbour of the one before it.
func anyRoute(next func(int) int, n api.Topology, router, most int) []int {
	var route []int
	for range next(1 + most) {
		hop := 1 + next(99)
		if near := topology.Neighbours(n, router); len(near) > 0 && next(8) > 0 {
			hop = near[next(len(near))]
		}
		if !slices.Contains(route, hop) {
			route = append(route, hop)
		}
		router = hop
	}
	return route
}

// P16.3: frames with any routes at all routers, against the definition.
func TestStep(t *testing.T) {
	next := random(3)
	for i, w := range kinds() {
		made := maker(w)
		for _, router := range numbers(w.topology)[2:] {
			_, found := find(w.tables, router)
			for range 6 {
				f := api.Frame{Packet: randomPacket(next, api.Table{Subdomain: next(8), Length: lengths[next(4)]}, next(3))}
				if len(w.tables) > 0 && next(8) > 0 {
					f.Packet = randomPacket(next, w.tables[0], next(3))
				}
				f.Route = anyRoute(next, w.topology, router, next(2)*24)
				want, code := made(router, f), api.OK
				if len(f.Route) == 0 && !found {
					want, code = api.Outcome{}, api.ErrUnknown
				} else if len(f.Route) == 0 && (f.Packet.Subdomain != w.tables[0].Subdomain || f.Packet.Length != w.tables[0].Length) {
					want, code = api.Outcome{}, api.ErrConflict
				}
				if got, e := tunnel.Step(w.topology, w.tables, router, f); e != code || !sameOutcome(got, want) {
					t.Fatalf("%d: the step of %d with %v is\n%v, %d, not\n%v, %d", i, router, f, got, e, want, code)
				}
			}
		}
	}
}

// grounded returns tables for the chain of the routers 40, 41, 50 and 60, and one of the router 70, which is not in it.
func grounded(length int) []api.Table {
	return []api.Table{of(40, length, row(1, 50), row(2, 41)), of(50, length, row(1, 50), row(2, 40)), of(70, length, row(1, 70))}
}

// framed returns frames with this packet: without a route, and with short and long ones.
func framed(p api.Packet) []api.Frame {
	return []api.Frame{{Packet: p}, {Route: []int{41}, Packet: p}, {Route: []int{41, 50, 60}, Packet: p}, {Route: []int{7, 41}, Packet: p}, {Route: upTo(41, 24), Packet: p}, {Route: upTo(76, 24), Packet: p}}
}

// wrongFrames returns frames that are not valid, for all reasons.
func wrongFrames(length int) []api.Frame {
	var l []api.Frame
	for _, p := range wrongPackets(length) {
		l = append(l, framed(p)...)
	}
	routes := [][]int{{0}, {100}, {41, 0}, {41, 100}, {41, 41}, {41, 50, 41}, {41, 50, 50}, upTo(41, 25), upTo(40, 25), append(upTo(41, 23), 41), append(upTo(41, 23), 63)}
	for _, n := range far {
		routes = append(routes, []int{n}, []int{41, n}, []int{n, 41}, append(upTo(41, 23), n))
	}
	for _, route := range routes {
		l = append(l, api.Frame{Route: route, Packet: right(length)})
	}
	return l
}

// refusedStep checks that Step returns this error, and nothing else.
func refusedStep(t *testing.T, n api.Topology, l []api.Table, router int, f api.Frame, want api.Errno) {
	t.Helper()
	if got, e := tunnel.Step(n, l, router, f); e != want || !sameOutcome(got, api.Outcome{}) {
		t.Errorf("in %v with the tables %v, the step of %d with %v is %v, %d, not the error %d", n, l, router, f, got, e, want)
	}
}

// P16.3: each error alone.
func TestStepErrors(t *testing.T) {
	for _, length := range lengths {
		n, l := ground(), grounded(length)
		for i, f := range framed(right(length)) {
			for _, router := range []int{40, 50} {
				if got, e := tunnel.Step(n, l, router, f); e != api.OK || sameOutcome(got, api.Outcome{}) {
					t.Fatalf("the step of %d with %v is %v, %d", router, f, got, e)
				}
				for _, wrong := range wrongTopologies() {
					refusedStep(t, wrong, l, router, f, api.ErrInvalid)
				}
			}
			for _, wrong := range wrongLists(length) {
				refusedStep(t, n, wrong, 50, f, api.ErrInvalid)
				refusedStep(t, n, wrong, 41, f, api.ErrInvalid)
			}
			// 70 has a table, but is not in the topology.
			for _, router := range append(far, 0, 1, 39, 42, 51, 70, 99, 100) {
				refusedStep(t, n, l, router, f, api.ErrUnknown)
				refusedStep(t, api.Topology{}, nil, router, f, api.ErrUnknown)
			}
			if i == 0 {
				refusedStep(t, n, l, 41, f, api.ErrUnknown)
				refusedStep(t, n, l, 60, f, api.ErrUnknown)
				refusedStep(t, n, nil, 50, f, api.ErrUnknown)
			}
		}
		for _, wrong := range wrongFrames(length) {
			refusedStep(t, n, l, 50, wrong, api.ErrInvalid)
			refusedStep(t, n, l, 41, wrong, api.ErrInvalid)
		}
		p := right(length)
		p.Mode = api.ModeEngineered
		refusedStep(t, n, l, 50, api.Frame{Packet: p}, api.ErrState)
		for other := range 8 {
			p = right(length)
			p.Subdomain = other
			if other != 3 {
				refusedStep(t, n, l, 50, api.Frame{Packet: p}, api.ErrConflict)
			}
		}
		for _, other := range lengths {
			if other != length {
				refusedStep(t, n, l, 50, api.Frame{Packet: right(other)}, api.ErrConflict)
			}
		}
		refusedStep(t, n, []api.Table{{Router: 50, Subdomain: 3}}, 50, api.Frame{Packet: right(length)}, api.ErrConflict)
	}
}

// P16.3: a frame with a route has none of the errors of forward.Packet, and needs no table.
func TestStepOfRoute(t *testing.T) {
	l := grounded(8)
	for mode := api.ModeIndexed; mode <= api.ModeProbe; mode++ {
		for subdomain := range 8 {
			for _, length := range lengths {
				p := right(length)
				p.Mode, p.Subdomain = mode, subdomain
				want := api.Outcome{Copies: []api.Copy{{To: 50, Frame: api.Frame{Route: []int{99}, Packet: p}}}}
				for _, router := range []int{41, 60} {
					for _, tables := range [][]api.Table{l, l[1:2], nil} {
						got, e := tunnel.Step(ground(), tables, router, api.Frame{Route: []int{50, 99}, Packet: p})
						if e != api.OK || !sameOutcome(got, want) {
							t.Errorf("the step of %d is %v, %d, not %v", router, got, e, want)
						}
						got, e = tunnel.Step(ground(), tables, router, api.Frame{Route: []int{40}, Packet: p})
						if linked := router == 41; e != api.OK || linked != (got.Lost == 0) || linked != (len(got.Copies) == 1) {
							t.Errorf("the step of %d to 40 is %v, %d", router, got, e)
						}
					}
				}
			}
		}
	}
}

// P16.3: the order of the errors. Each case has all the mistakes of those that follow.
func TestStepOrderOfErrors(t *testing.T) {
	for _, length := range lengths {
		n, l := ground(), grounded(length)
		p := right(length)
		p.Subdomain = 4
		refusedStep(t, n, l, 50, api.Frame{Packet: p}, api.ErrConflict)
		p.Mode = api.ModeEngineered
		refusedStep(t, n, l, 50, api.Frame{Packet: p}, api.ErrState)
		for _, f := range framed(p) {
			refusedStep(t, n, l, 42, f, api.ErrUnknown)
			refusedStep(t, n, l, 70, f, api.ErrUnknown)
			for _, wrong := range wrongTopologies() {
				refusedStep(t, wrong, l, 42, f, api.ErrInvalid)
				refusedStep(t, wrong, nil, 42, f, api.ErrInvalid)
			}
			for _, wrong := range wrongLists(length) {
				refusedStep(t, n, wrong, 42, f, api.ErrInvalid)
				refusedStep(t, api.Topology{}, wrong, 50, f, api.ErrInvalid)
			}
		}
		refusedStep(t, n, l, 41, api.Frame{Packet: p}, api.ErrUnknown)
		for _, wrong := range wrongFrames(length) {
			if wrong.Packet.Mode == api.ModeIndexed {
				wrong.Packet.Mode = api.ModeEngineered
			}
			refusedStep(t, n, l, 42, wrong, api.ErrInvalid)
			refusedStep(t, api.Topology{}, nil, 50, wrong, api.ErrInvalid)
		}
	}
}

// P16.4: known runs. Frames are handled first in, first out, on their routes as behind them.
func TestRunKnown(t *testing.T) {
	n, l := roads()
	p := api.Packet{Mode: api.ModeProbe, Subdomain: 3, Length: 16, Ingress: 7, Proto: 5, Payload: "stream"}
	with := func(set, ttl, entropy int, bits uint64) api.Packet {
		q := p
		q.Set, q.TTL, q.Entropy, q.Bits = set, ttl, entropy, bits
		return q
	}
	for i, c := range []struct {
		p      api.Packet
		router int
		want   api.Trace
	}{
		{with(0, 9, 0, 0), 1, api.Trace{}},
		{with(0, 9, 0, 3), 1, api.Trace{
			Deliveries: []api.Delivery{arrived(p, 4, 0, 8), arrived(p, 7, 1, 8)},
			Crossings:  []api.Crossing{{From: 1, To: 2, Bits: 1}, {From: 1, To: 3, Bits: 2}, {From: 2, To: 4, Bits: 1}, {From: 3, To: 5, Bits: 2}, {From: 5, To: 7, Bits: 2}}}},
		{with(0, 1, 0, 1|1<<8), 1, api.Trace{
			Deliveries: []api.Delivery{arrived(p, 4, 0, 0), arrived(p, 9, 8, 0)},
			Crossings:  []api.Crossing{{From: 1, To: 2, Bits: 1}, {From: 1, To: 2, Bits: 1 << 8}, {From: 2, To: 4, Bits: 1}, {From: 2, To: 9, Bits: 1 << 8}}}},
		{with(0, 9, 0, 1<<2|1<<10), 1, api.Trace{Deliveries: []api.Delivery{arrived(p, 1, 2, 9), arrived(p, 1, 10, 9)}}},
		{with(0, 9, 0, 1<<3|1<<4|1<<6|1<<15), 1, api.Trace{Losses: []api.Loss{{Router: 1, Bits: 1<<3 | 1<<4 | 1<<6 | 1<<15}}}},
		{with(0, 9, 0, 1<<7|1<<11|1<<6), 1, api.Trace{
			Crossings: []api.Crossing{{From: 1, To: 2, Bits: 1 << 7}, {From: 1, To: 3, Bits: 1 << 11}, {From: 3, To: 5, Bits: 1 << 11}},
			Losses:    []api.Loss{{Router: 1, Bits: 1 << 6}, {Router: 2, Bits: 1 << 7}, {Router: 5, Bits: 1 << 11}}}},
		{with(0, 0, 0, 1<<0|1<<2|1<<3), 1, api.Trace{Deliveries: []api.Delivery{arrived(p, 1, 2, 0)}, Losses: []api.Loss{{Router: 1, Bits: 1<<0 | 1<<3}}}},
		{with(0, 1, 0, 1<<12), 1, api.Trace{Crossings: []api.Crossing{{From: 1, To: 2, Bits: 1 << 12}, {From: 2, To: 4, Bits: 1 << 12}}, Losses: []api.Loss{{Router: 4, Bits: 1 << 12}}}},
		{with(0, 3, 0, 1<<12), 4, api.Trace{
			Crossings: []api.Crossing{{From: 4, To: 6, Bits: 1 << 12}, {From: 6, To: 7, Bits: 1 << 12}, {From: 7, To: 5, Bits: 1 << 12}, {From: 5, To: 3, Bits: 1 << 12},
				{From: 3, To: 1, Bits: 1 << 12}, {From: 1, To: 2, Bits: 1 << 12}, {From: 2, To: 4, Bits: 1 << 12}},
			Losses: []api.Loss{{Router: 4, Bits: 1 << 12}}}},
		{with(0, 9, 1022, 1<<5), 1, api.Trace{
			Deliveries: []api.Delivery{arrived(with(0, 0, 1022, 0), 4, 5, 8)}, Crossings: []api.Crossing{{From: 1, To: 2, Bits: 1 << 5}, {From: 2, To: 4, Bits: 1 << 5}}}},
		{with(0, 9, 1023, 1<<5), 1, api.Trace{
			Crossings: []api.Crossing{{From: 1, To: 3, Bits: 1 << 5}, {From: 3, To: 5, Bits: 1 << 5}, {From: 5, To: 7, Bits: 1 << 5}}, Losses: []api.Loss{{Router: 7, Bits: 1 << 5}}}},
		{with(0, 2, 0, 1<<8), 4, api.Trace{
			Deliveries: []api.Delivery{arrived(p, 9, 8, 0)},
			Crossings:  []api.Crossing{{From: 4, To: 2, Bits: 1 << 8}, {From: 2, To: 1, Bits: 1 << 8}, {From: 1, To: 2, Bits: 1 << 8}, {From: 2, To: 9, Bits: 1 << 8}}}},
		{with(1, 9, 0, 3), 1, api.Trace{
			Crossings: []api.Crossing{{From: 1, To: 3, Bits: 1}, {From: 3, To: 5, Bits: 1}, {From: 5, To: 7, Bits: 1}}, Losses: []api.Loss{{Router: 1, Bits: 2}, {Router: 7, Bits: 1}}}},
	} {
		if got, e := tunnel.Run(n, l, c.p, c.router); e != api.OK || !same(got, c.want) {
			t.Errorf("%d: the trace is\n%v, %d, not\n%v", i, got, e, c.want)
		}
	}
}

// P16.4: a frame on its route may come to routers later than one that needs fewer hops, but more links.
func TestRunOrder(t *testing.T) {
	n := net(6, []int{2, 3}, even(1, 2), even(1, 4), even(2, 3), even(3, 5), even(4, 6))
	l := []api.Table{of(1, 8, row(1, 5), row(2, 4)), of(4, 8, row(2, 6)), of(5, 8, row(1, 5)), of(6, 8, row(2, 6))}
	p := right(8)
	p.Bits = 3
	want := api.Trace{
		Deliveries: []api.Delivery{arrived(p, 6, 1, 7), arrived(p, 5, 0, 8)},
		Crossings:  []api.Crossing{{From: 1, To: 2, Bits: 1}, {From: 1, To: 4, Bits: 2}, {From: 2, To: 3, Bits: 1}, {From: 4, To: 6, Bits: 2}, {From: 3, To: 5, Bits: 1}},
	}
	if got, e := tunnel.Run(n, l, p, 1); e != api.OK || !same(got, want) {
		t.Errorf("the trace is\n%v, %d, not\n%v", got, e, want)
	}
}

// P16.4: packets of any sets and TTLs, in domains and through tables that know nothing of the topology, against the definition.
func TestRun(t *testing.T) {
	next := random(4)
	for i, w := range kinds() {
		made := maker(w)
		for _, b := range w.tables {
			if !slices.Contains(numbers(w.topology), b.Router) {
				continue
			}
			p := randomPacket(next, b, next(4))
			want := ran(made, p, b.Router)
			if got, e := tunnel.Run(w.topology, w.tables, p, b.Router); e != api.OK || !same(got, want) {
				t.Fatalf("%d: of %v at %d the trace is\n%v, %d, not\n%v", i, p, b.Router, got, e, want)
			}
		}
	}
}

// P16.4: the longest runs end, too: 64 bits that go apart on long routes, and never arrive.
func TestRunLongest(t *testing.T) {
	l := circling()
	for i, n := range []api.Topology{chain(24, upTo(1, 24)), layered(5, 0)} {
		// Not all routers of the tables are in the second topology, so some bits are lost there before.
		p := api.Packet{Mode: api.ModeIndexed, Subdomain: 3, Length: 64, TTL: 63, Set: 1, Bits: math.MaxUint64}
		got, e := tunnel.Run(n, l, p, 7)
		if want := ran(maker(wild{n, l}), p, 7); e != api.OK || !same(got, want) {
			t.Errorf("%d: the trace is %v, %d, not %v", i, got, e, want)
		}
		if len(got.Crossings) < 63 || len(got.Deliveries) > 0 || trace.Lost(got) != math.MaxUint64 {
			t.Errorf("%d: there are %d crossings, the deliveries %v and the losses %v", i, len(got.Crossings), got.Deliveries, got.Losses)
		}
	}
}

// refusedRun checks that Run returns this error, and nothing else.
func refusedRun(t *testing.T, n api.Topology, l []api.Table, p api.Packet, router int, want api.Errno) {
	t.Helper()
	if got, e := tunnel.Run(n, l, p, router); e != want || !isZero(got) {
		t.Errorf("in %v with the tables %v, the trace of %v at %d is %v, %d, not the error %d", n, l, p, router, got, e, want)
	}
}

// P16.4: each error alone.
func TestRunErrors(t *testing.T) {
	for _, length := range lengths {
		n, l, p := ground(), grounded(length), right(length)
		for _, router := range []int{40, 50} {
			if got, e := tunnel.Run(n, l, p, router); e != api.OK || isZero(got) {
				t.Fatalf("the trace is %v, %d", got, e)
			}
			for _, wrong := range wrongTopologies() {
				refusedRun(t, wrong, l, p, router, api.ErrInvalid)
			}
			for _, wrong := range wrongPackets(length) {
				refusedRun(t, n, l, wrong, router, api.ErrInvalid)
			}
		}
		for _, wrong := range wrongLists(length) {
			refusedRun(t, n, wrong, p, 50, api.ErrInvalid)
		}
		// 41 and 60 are in the topology, but have no tables; with 70, it is the other way round.
		for _, router := range append(far, 0, 1, 39, 41, 42, 51, 60, 70, 99, 100) {
			refusedRun(t, n, l, p, router, api.ErrUnknown)
			refusedRun(t, n, nil, p, router, api.ErrUnknown)
			refusedRun(t, api.Topology{}, l, p, router, api.ErrUnknown)
		}
		p.Mode = api.ModeEngineered
		refusedRun(t, n, l, p, 50, api.ErrState)
		for other := range 8 {
			p = right(length)
			p.Subdomain = other
			if other != 3 {
				refusedRun(t, n, l, p, 50, api.ErrConflict)
			}
		}
		for _, other := range lengths {
			if other != length {
				refusedRun(t, n, l, right(other), 40, api.ErrConflict)
			}
		}
		refusedRun(t, n, []api.Table{{Router: 50, Subdomain: 3}}, right(length), 50, api.ErrConflict)
	}
}

// P16.4: the order of the errors, also for packets without bits. Each case has all the mistakes of those that follow.
func TestRunOrderOfErrors(t *testing.T) {
	for _, length := range lengths {
		n, l, p := ground(), grounded(length), right(length)
		p.Bits = 0
		if got, e := tunnel.Run(n, l, p, 50); e != api.OK || !isZero(got) {
			t.Errorf("the trace of a packet without bits is %v, %d", got, e)
		}
		p.Subdomain = 4
		refusedRun(t, n, l, p, 50, api.ErrConflict)
		p.Mode = api.ModeEngineered
		refusedRun(t, n, l, p, 50, api.ErrState)
		for _, router := range []int{0, 41, 42, 60, 70} {
			refusedRun(t, n, l, p, router, api.ErrUnknown)
			for _, wrong := range wrongTopologies() {
				refusedRun(t, wrong, l, p, router, api.ErrInvalid)
			}
			for _, wrong := range wrongLists(length) {
				refusedRun(t, n, wrong, p, router, api.ErrInvalid)
				refusedRun(t, api.Topology{}, wrong, p, router, api.ErrInvalid)
			}
			for _, wrong := range wrongPackets(length) {
				if wrong.Mode == api.ModeIndexed {
					wrong.Mode = api.ModeEngineered
				}
				refusedRun(t, n, l, wrong, router, api.ErrInvalid)
				refusedRun(t, api.Topology{}, nil, wrong, router, api.ErrInvalid)
			}
		}
	}
}

// inOrder returns deliveries by their bits.
func inOrder(l []api.Delivery) []api.Delivery {
	return slices.SortedFunc(slices.Values(l), func(a, b api.Delivery) int { return cmp.Compare(a.Packet.Bits, b.Packet.Bits) })
}

// P16.5: with the tables of the topology, the same is delivered and lost as without tunnels, over links that exist and shortest paths.
func TestDomains(t *testing.T) {
	next := random(5)
	through := 0
	for i, d := range domains() {
		links := linkCosts(d.topology)
		for _, b := range d.tables {
			for range 4 {
				p := randomPacket(next, b, next(1+200/d.plan.Length))
				p.TTL = max(p.TTL, next(2)*len(d.topology.Routers))
				plain, _ := trace.Run(d.tables, p, b.Router)
				x, e := tunnel.Run(d.topology, d.tables, p, b.Router)
				if e != api.OK || !slices.Equal(inOrder(x.Deliveries), inOrder(plain.Deliveries)) || trace.Lost(x) != trace.Lost(plain) {
					t.Fatalf("%d: of %v at %d the trace is\n%v, %d, but without tunnels\n%v", i, p, b.Router, x, e, plain)
				}
				if !slices.ContainsFunc(d.topology.Routers, func(r api.Router) bool { return !r.Capable }) && !same(x, plain) {
					t.Errorf("%d: with capable routers only, the trace is\n%v, but without tunnels\n%v", i, x, plain)
				}
				if len(x.Crossings) > len(plain.Crossings) {
					through++
				}
				for bit := range p.Length {
					checkCost(t, d, x, b.Router, bit, links)
				}
			}
		}
	}
	if through < 100 {
		t.Errorf("only %d packets go through tunnels", through)
	}
}

// checkCost checks that a bit crosses only links, and a shortest path of them.
func checkCost(t *testing.T, d domain, x api.Trace, from, bit int, links map[api.Hop]int) {
	t.Helper()
	chain, ok := chainOf(x, from, bit)
	at, sum := from, 0
	for _, to := range chain {
		cost, linked := links[api.Hop{From: at, To: to}]
		ok = ok && linked
		sum += cost
		at = to
	}
	if least, _ := shortest.Cost(d.topology, from, at); !ok || sum != least {
		t.Errorf("from %d, the bit %d crosses %v for %d, not %d", from, bit, chain, sum, least)
	}
}

// gone returns topologies without a link, without a router, and without several of both.
func gone(next func(int) int, n api.Topology) []api.Topology {
	var many api.Failure
	l := []api.Topology{n}
	for _, link := range n.Links {
		one := api.Hop{From: link.A, To: link.B}
		if next(4) == 0 {
			l = append(l, topology.Without(n, api.Failure{Links: []api.Hop{one}}))
			many.Links = append(many.Links, one)
		}
	}
	for _, r := range n.Routers {
		if next(4) == 0 {
			l = append(l, topology.Without(n, api.Failure{Routers: []int{r.ID}}))
			many.Routers = append(many.Routers, r.ID)
		}
	}
	return append(l, topology.Without(n, api.Failure{Links: many.Links}), topology.Without(n, many))
}

// P16.5: with links and routers gone, and with tables that know nothing of the topology, each bit ends once, there where its crossings over links have led it.
func TestGone(t *testing.T) {
	next := random(6)
	missed := 0
	for i, w := range kinds() {
		for _, n := range gone(next, w.topology) {
			links := linkCosts(n)
			for _, b := range w.tables {
				if next(30) > 0 || !slices.Contains(numbers(n), b.Router) {
					continue
				}
				p := randomPacket(next, b, next(2))
				x, e := tunnel.Run(n, w.tables, p, b.Router)
				if e != api.OK || trace.Received(x)&trace.Lost(x) != 0 || trace.Received(x)|trace.Lost(x) != p.Bits {
					t.Fatalf("%d: of %v at %d the trace is %v, %d", i, p, b.Router, x, e)
				}
				if whole, e := tunnel.Run(w.topology, w.tables, p, b.Router); e == api.OK && trace.Lost(x) > trace.Lost(whole) {
					missed++
				}
				times := ends(x)
				for bit := range p.Length {
					if times[bit] != int(p.Bits>>bit%2) {
						t.Errorf("%d: the bit %d of %x ends %d times", i, bit, p.Bits, times[bit])
					}
					checkEnd(t, x, p, b.Router, bit, links)
				}
			}
		}
	}
	if missed < 50 {
		t.Errorf("only %d packets miss what has gone", missed)
	}
}

// checkEnd checks that a bit crosses only links, and ends where they have led it.
func checkEnd(t *testing.T, x api.Trace, p api.Packet, from, bit int, links map[api.Hop]int) {
	t.Helper()
	chain, ok := chainOf(x, from, bit)
	at := from
	for _, to := range chain {
		_, linked := links[api.Hop{From: at, To: to}]
		ok = ok && linked
		at = to
	}
	for _, d := range x.Deliveries {
		ok = ok && (d.Packet.Bits>>bit%2 == 0 || d == arrived(p, at, bit, d.Packet.TTL) && d.Packet.TTL <= p.TTL)
	}
	for _, loss := range x.Losses {
		ok = ok && (loss.Bits>>bit%2 == 0 || loss.Router == at)
	}
	if !ok {
		t.Errorf("of %v at %d, the bit %d crosses %v, in %v", p, from, bit, chain, x)
	}
}

// P16.3, P16.5: what has gone before a frame on its route loses all of its bits.
func TestGoneBeforeFrame(t *testing.T) {
	n, l := roads()
	p := right(16)
	p.Bits = 1 << 1
	cut := topology.Without(n, api.Failure{Links: []api.Hop{{From: 5, To: 7}}})
	got, e := tunnel.Step(cut, l, 5, api.Frame{Route: []int{7}, Packet: p})
	if e != api.OK || !sameOutcome(got, api.Outcome{Lost: 2}) {
		t.Errorf("the step of 5 is %v, %d", got, e)
	}
	// In the topology that is left, the shortest path from 1 to 7 passes 4, which is capable, so there is no route.
	x, e := tunnel.Run(cut, l, p, 1)
	if e != api.OK || !same(x, api.Trace{Losses: []api.Loss{{Router: 1, Bits: 2}}}) {
		t.Errorf("the trace is %v, %d", x, e)
	}
	without := topology.Without(n, api.Failure{Routers: []int{7}})
	got, e = tunnel.Step(without, l, 5, api.Frame{Route: []int{7}, Packet: p})
	if e != api.OK || !sameOutcome(got, api.Outcome{Lost: 2}) {
		t.Errorf("without 7, the step of 5 is %v, %d", got, e)
	}
	refusedStep(t, without, l, 7, api.Frame{Packet: p}, api.ErrUnknown)
	refusedRun(t, without, l, p, 7, api.ErrUnknown)
}

// answers returns what Step and Run answer, as a text.
func answers(w wild, router int, f api.Frame) string {
	step, code := tunnel.Step(w.topology, w.tables, router, f)
	got, e := tunnel.Run(w.topology, w.tables, f.Packet, router)
	return fmt.Sprintln(step, code, got, e)
}

// R5, R6: Step and Run leave their arguments as they are, and answer the same again, in memory of their own.
func TestArgumentsStay(t *testing.T) {
	next := random(7)
	for i, w := range kinds() {
		kept := fmt.Sprint(w)
		for _, router := range numbers(w.topology)[1:min(5, 2+len(w.topology.Routers))] {
			var b api.Table
			b.Length = 8
			if len(w.tables) > 0 {
				b = w.tables[0]
			}
			f := api.Frame{Packet: randomPacket(next, b, 0), Route: anyRoute(next, w.topology, router, next(2)*24)}
			route := slices.Clone(f.Route)
			first := answers(w, router, f)
			step, _ := tunnel.Step(w.topology, w.tables, router, f)
			for at, c := range step.Copies {
				for k := range c.Frame.Route {
					c.Frame.Route[k] = -at
				}
				_ = append(c.Frame.Route, -at)
			}
			for at, c := range step.Copies {
				if !slices.Equal(f.Route, route) || slices.ContainsFunc(c.Frame.Route, func(r int) bool { return r != -at }) {
					t.Errorf("%d: the route %v has become %v, and that of the copy %d is %v", i, route, f.Route, at, c.Frame.Route)
				}
			}
			if again := answers(w, router, f); again != first {
				t.Errorf("%d: the answers are first\n%s, then\n%s", i, first, again)
			}
		}
		if again := fmt.Sprint(w); again != kept {
			t.Errorf("%d: the arguments have changed", i)
		}
	}
}
