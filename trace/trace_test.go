package trace_test

import (
	"fmt"
	"math"
	"slices"
	"strings"
	"testing"

	"bitcast/api"
	"bitcast/shortest"
	"bitcast/table"
	"bitcast/topology"
	"bitcast/trace"
)

// far has numbers that are out of every range, some of which seem to be in one if only their lowest bits are looked at, or if they are multiplied.
var far = []int{math.MinInt, math.MinInt + 1, -1 << 61, -1 << 32, -1<<32 + 2, -257, -8, -2, -1, 1024, 1 << 32, 1<<32 + 1, 1<<32 + 2, 1 << 58, 1 << 61, 1<<61 + 1, 1 << 62, math.MaxInt - 1, math.MaxInt}

// lengths has the lengths of bit strings.
var lengths = []int{8, 16, 32, 64}

// random returns a fixed sequence of numbers below n, so that each run of the tests is the same.
func random(seed uint64) func(n int) int {
	return func(n int) int {
		seed = seed*6364136223846793005 + 1442695040888963407
		return int(seed >> 33 % uint64(n))
	}
}

// row returns a row with these next hops.
func row(id int, next ...int) api.Row { return api.Row{ID: id, Next: next} }

// of returns a table of the subdomain 3 with these rows.
func of(router, length int, rows ...api.Row) api.Table {
	return api.Table{Router: router, Subdomain: 3, Length: length, Rows: rows}
}

// upTo returns n numbers, the first one of which is low.
func upTo(low, n int) []int {
	var l []int
	for i := range n {
		l = append(l, low+i)
	}
	return l
}

// copied returns equal tables with memory of their own.
func copied(l []api.Table) []api.Table {
	c := slices.Clone(l)
	for i, b := range l {
		c[i].Rows = nil
		for _, r := range b.Rows {
			c[i].Rows = append(c[i].Rows, api.Row{ID: r.ID, Next: slices.Clone(r.Next)})
		}
	}
	return c
}

// strange returns valid tables of n routers that know nothing of each other. A row has the router itself, nothing, or up to most of the routers from 1 to greatest.
func strange(next func(int) int, n, length, greatest, most, own int) []api.Table {
	var l []api.Table
	subdomain := next(8)
	for _, router := range some(next, n, greatest) {
		b := api.Table{Router: router, Subdomain: subdomain, Length: length}
		for id := 1; id <= 256 && id <= 3*length; id++ {
			switch next(40) {
			case 0:
				continue
			case 1:
				b.Rows = append(b.Rows, row(id))
				continue
			}
			r := row(id, router)
			if next(own) > 0 {
				r.Next = slices.DeleteFunc(some(next, 1+next(most), greatest), func(hop int) bool { return hop == router })
			}
			b.Rows = append(b.Rows, r)
		}
		l = append(l, b)
	}
	return l
}

// some returns n different numbers from 1 to greatest, ascending.
func some(next func(int) int, n, greatest int) []int {
	var l []int
	for len(l) < n {
		if r := 1 + next(greatest); !slices.Contains(l, r) {
			l = append(l, r)
		}
	}
	slices.Sort(l)
	return l
}

// strangers returns lists of tables that may lead anywhere: in circles, to routers without tables, and nowhere.
func strangers() [][]api.Table {
	next := random(14)
	var l [][]api.Table
	for _, length := range lengths {
		for _, own := range []int{2, 9, 40, 1 << 30} {
			l = append(l, strange(next, 1, length, 4, 3, own), strange(next, 4, length, 4, 1, own), strange(next, 5, length, 6, 3, own))
			l = append(l, strange(next, 12, length, 99, 9, own), strange(next, 24, length, 25, 6, own), strange(next, 23, length, 24, 20, own))
		}
	}
	return l
}

// circling returns tables of 24 routers, through which packets with the length 64 never end but by their TTL, and bits go apart and together again.
func circling() []api.Table {
	var l []api.Table
	for i := range 24 {
		b := of(1+i, 64)
		for id := 1; id <= 256; id++ {
			var hops []int
			for k := range 24 {
				if k != i && (k*7+id*(i+3))%(2+id%5) == 0 {
					hops = append(hops, 1+k)
				}
			}
			b.Rows = append(b.Rows, row(id, hops...))
		}
		l = append(l, b)
	}
	return l
}

// meshed returns a topology of n routers, the numbers of which are so many apart, in which each pair has a link with one chance in thin, as far as there may be links. Costs are at most dear. Of each ten routers, about plain are not capable.
func meshed(next func(int) int, n, apart, thin, dear, plain int) api.Topology {
	var t api.Topology
	for i := range n {
		t.Routers = append(t.Routers, api.Router{ID: 1 + i*apart, Capable: next(10) >= plain})
	}
	for i, a := range t.Routers {
		for _, b := range t.Routers[i+1:] {
			if next(thin) == 0 && len(t.Links) < 60 {
				t.Links = append(t.Links, api.Link{A: a.ID, B: b.ID, CostA: 1 + next(dear), CostB: 1 + next(dear)})
			}
		}
	}
	return t
}

// planFor returns a plan with the routers of a topology, thinned out, in any order, and with others.
func planFor(next func(int) int, t api.Topology, thin int) api.Plan {
	p := api.Plan{Subdomain: next(8), Length: lengths[next(4)]}
	var routers []int
	for _, r := range t.Routers {
		if next(thin) == 0 {
			routers = slices.Insert(routers, next(len(routers)+1), r.ID)
		}
	}
	for _, n := range []int{1, 50, 98, 99} {
		if len(routers) < 24 && !slices.Contains(routers, n) && next(2) == 0 {
			routers = slices.Insert(routers, next(len(routers)+1), n)
		}
	}
	id := 0
	for _, r := range routers {
		id += 1 + next(10)
		p.Edges = append(p.Edges, api.Edge{Router: r, ID: id})
	}
	return p
}

// domain is a topology with a plan, and the tables for both.
type domain struct {
	topology api.Topology
	plan     api.Plan
	tables   []api.Table
}

// domains returns domains of many kinds.
func domains() []domain {
	next := random(41)
	var l []domain
	add := func(n api.Topology) {
		p := planFor(next, n, 1+next(2))
		tables, e := table.All(n, p)
		if e != api.OK {
			panic("these tables are not valid")
		}
		l = append(l, domain{n, p, tables})
	}
	for n := 1; n <= 24; n += 1 + n/4 {
		for _, plain := range []int{0, 0, 2, 5} {
			for _, dear := range []int{1, 2, 1000} {
				add(meshed(next, n, 1+next(4), 1+next(1+n/4), dear, plain))
			}
		}
	}
	return l
}

// randomPacket returns a valid packet of the subdomain and the length of a table, with this set.
func randomPacket(next func(int) int, b api.Table, set int) api.Packet {
	bits := uint64(next(1<<31))<<62 ^ uint64(next(1<<31))<<31 ^ uint64(next(1<<31))
	return api.Packet{
		Mode: api.ModeIndexed + 2*next(2), Subdomain: b.Subdomain, Set: set, Length: b.Length, TTL: next(64), Entropy: next(1024),
		Ingress: next(257), Proto: next(8), Bits: bits >> (64 - b.Length), Payload: strings.Repeat(string(rune('a'+next(26))), next(65)),
	}
}

// find returns the table of a router.
func find(l []api.Table, router int) (api.Table, bool) {
	for _, b := range l {
		if b.Router == router {
			return b, true
		}
	}
	return api.Table{}, false
}

// hop returns the next hop for an identifier in a plane, by the definition, from a valid table.
func hop(b api.Table, id, plane int) int {
	for _, r := range b.Rows {
		if r.ID == id && len(r.Next) > 0 {
			return r.Next[plane%len(r.Next)]
		}
	}
	return 0
}

// place is a router with bits that have come there.
type place struct {
	router int
	bits   uint64
}

// ran returns what becomes of a packet, by the definition: all packets with the same TTL are handled before those with a lesser one.
func ran(l []api.Table, p api.Packet, router int) api.Trace {
	var t api.Trace
	level := []place{{router, p.Bits}}
	for ttl := p.TTL; len(level) > 0; ttl-- {
		var behind []place
		for _, a := range level {
			b, ok := find(l, a.router)
			if !ok {
				t.Losses = append(t.Losses, api.Loss{Router: a.router, Bits: a.bits})
				continue
			}
			q := p
			q.TTL = ttl
			behind = append(behind, passed(&t, b, q, a.bits)...)
		}
		level = behind
	}
	return t
}

// passed adds to a trace what a router with a table makes of these bits of a packet, and returns where the others have come.
func passed(t *api.Trace, b api.Table, p api.Packet, bits uint64) []place {
	var behind []place
	var lost uint64
	for k := range p.Length {
		if bits>>k%2 == 0 {
			continue
		}
		next := hop(b, p.Set*p.Length+k+1, p.Entropy%8)
		at := slices.IndexFunc(behind, func(other place) bool { return other.router == next })
		switch {
		case next == b.Router:
			p.Bits = 1 << k
			t.Deliveries = append(t.Deliveries, api.Delivery{Router: next, Packet: p})
		case next == 0 || p.TTL == 0:
			lost += 1 << k
		case at >= 0:
			behind[at].bits += 1 << k
		default:
			behind = append(behind, place{next, 1 << k})
		}
	}
	if lost > 0 {
		t.Losses = append(t.Losses, api.Loss{Router: b.Router, Bits: lost})
	}
	for _, a := range behind {
		t.Crossings = append(t.Crossings, api.Crossing{From: b.Router, To: a.router, Bits: a.bits})
	}
	return behind
}

// same reports whether two traces are equal.
func same(a, b api.Trace) bool {
	return slices.Equal(a.Deliveries, b.Deliveries) && slices.Equal(a.Crossings, b.Crossings) && slices.Equal(a.Losses, b.Losses)
}

// isZero reports whether a trace is the zero trace.
func isZero(t api.Trace) bool { return same(t, api.Trace{}) }

// arrived returns a delivery of a packet with one bit and this TTL.
func arrived(p api.Packet, router, bit, ttl int) api.Delivery {
	p.Bits, p.TTL = 1<<bit, ttl
	return api.Delivery{Router: router, Packet: p}
}

// P14.1: the chapter's example, with all TTLs: both bits cross the first link together.
func TestExample(t *testing.T) {
	n := api.Topology{
		Routers: []api.Router{{ID: 1, Capable: true}, {ID: 2, Capable: true}, {ID: 3, Capable: true}},
		Links:   []api.Link{{A: 1, B: 2, CostA: 1, CostB: 1}, {A: 2, B: 3, CostA: 1, CostB: 1}},
	}
	l, e := table.All(n, api.Plan{Length: 8, Edges: []api.Edge{{Router: 2, ID: 1}, {Router: 3, ID: 2}}})
	if e != api.OK {
		t.Fatalf("All is %d", e)
	}
	for ttl := range 64 {
		p := api.Packet{Mode: api.ModeIndexed, Length: 8, TTL: ttl, Bits: 3, Payload: "hi"}
		want := api.Trace{
			Deliveries: []api.Delivery{arrived(p, 2, 0, ttl-1), arrived(p, 3, 1, ttl-2)},
			Crossings:  []api.Crossing{{From: 1, To: 2, Bits: 3}, {From: 2, To: 3, Bits: 2}},
		}
		switch ttl {
		case 0:
			want = api.Trace{Losses: []api.Loss{{Router: 1, Bits: 3}}}
		case 1:
			want = api.Trace{Deliveries: want.Deliveries[:1], Crossings: want.Crossings[:1], Losses: []api.Loss{{Router: 2, Bits: 2}}}
		}
		if got, e := trace.Run(l, p, 1); e != api.OK || !same(got, want) {
			t.Errorf("with the TTL %d, the trace is %v, %d, not %v", ttl, got, e, want)
		}
	}
}

// tree returns tables in which bits part at 1 and at 2, meet at 6, go in a circle of 7 and 8, or come to 9, which has no table.
func tree() []api.Table {
	return []api.Table{
		of(1, 16, row(1, 2), row(2, 3), row(3, 2), row(4, 1), row(5, 3), row(6, 2), row(7, 7), row(8, 9), row(9), row(10, 2, 3), row(12, 1), row(17, 99)),
		of(2, 16, row(1, 4), row(3, 5), row(4, 2), row(6, 6), row(10, 2), row(11, 4)),
		of(3, 16, row(2, 3), row(5, 6), row(10, 6)),
		of(4, 16, row(1, 4)), of(5, 16, row(3, 9)), of(6, 16, row(5, 6), row(6, 6)),
		of(7, 16, row(7, 8)), of(8, 16, row(7, 7)),
	}
}

// P14.1: packets are handled first in, first out. What was apart stays apart where it meets.
func TestRunKnown(t *testing.T) {
	p := api.Packet{Mode: api.ModeProbe, Subdomain: 3, Length: 16, Ingress: 7, Proto: 5, Payload: "stream"}
	with := func(set, ttl, entropy int, bits uint64) api.Packet {
		q := p
		q.Set, q.TTL, q.Entropy, q.Bits = set, ttl, entropy, bits
		return q
	}
	for i, c := range []struct {
		p      api.Packet
		router int
		want   api.Trace
	}{
		{with(0, 9, 0, 0), 1, api.Trace{}},
		{with(0, 9, 0, 1<<3|1<<11), 1, api.Trace{Deliveries: []api.Delivery{arrived(p, 1, 3, 9), arrived(p, 1, 11, 9)}}},
		{with(0, 0, 0, 1<<3|1<<0|1<<1), 1, api.Trace{Deliveries: []api.Delivery{arrived(p, 1, 3, 0)}, Losses: []api.Loss{{Router: 1, Bits: 3}}}},
		{with(0, 5, 0, 1<<8|1<<10|1<<15), 1, api.Trace{Losses: []api.Loss{{Router: 1, Bits: 1<<8 | 1<<10 | 1<<15}}}},
		{with(0, 9, 0, 7), 1, api.Trace{
			Deliveries: []api.Delivery{arrived(p, 3, 1, 8), arrived(p, 4, 0, 7)},
			Crossings:  []api.Crossing{{From: 1, To: 2, Bits: 5}, {From: 1, To: 3, Bits: 2}, {From: 2, To: 4, Bits: 1}, {From: 2, To: 5, Bits: 4}, {From: 5, To: 9, Bits: 4}},
			Losses:     []api.Loss{{Router: 9, Bits: 4}}}},
		{with(0, 2, 0, 1<<4|1<<5), 1, api.Trace{
			Deliveries: []api.Delivery{arrived(p, 6, 4, 0), arrived(p, 6, 5, 0)},
			Crossings:  []api.Crossing{{From: 1, To: 3, Bits: 1 << 4}, {From: 1, To: 2, Bits: 1 << 5}, {From: 3, To: 6, Bits: 1 << 4}, {From: 2, To: 6, Bits: 1 << 5}}}},
		{with(0, 4, 0, 1<<6), 1, api.Trace{
			Crossings: []api.Crossing{{From: 1, To: 7, Bits: 64}, {From: 7, To: 8, Bits: 64}, {From: 8, To: 7, Bits: 64}, {From: 7, To: 8, Bits: 64}},
			Losses:    []api.Loss{{Router: 8, Bits: 64}}}},
		{with(0, 2, 0, 1<<6|1<<7|1<<8|1<<3), 1, api.Trace{
			Deliveries: []api.Delivery{arrived(p, 1, 3, 2)},
			Crossings:  []api.Crossing{{From: 1, To: 7, Bits: 64}, {From: 1, To: 9, Bits: 128}, {From: 7, To: 8, Bits: 64}},
			Losses:     []api.Loss{{Router: 1, Bits: 256}, {Router: 9, Bits: 128}, {Router: 8, Bits: 64}}}},
		{with(0, 5, 1022, 1<<9), 1, api.Trace{Deliveries: []api.Delivery{arrived(with(0, 0, 1022, 0), 2, 9, 4)}, Crossings: []api.Crossing{{From: 1, To: 2, Bits: 512}}}},
		{with(0, 5, 1023, 1<<9), 1, api.Trace{
			Crossings: []api.Crossing{{From: 1, To: 3, Bits: 512}, {From: 3, To: 6, Bits: 512}}, Losses: []api.Loss{{Router: 6, Bits: 512}}}},
		{with(0, 5, 0, 1<<10|1<<3|1), 2, api.Trace{
			Deliveries: []api.Delivery{arrived(p, 2, 3, 5), arrived(p, 4, 0, 4)}, Crossings: []api.Crossing{{From: 2, To: 4, Bits: 1<<10 | 1}}, Losses: []api.Loss{{Router: 4, Bits: 1 << 10}}}},
		{with(1, 1, 0, 3), 1, api.Trace{Crossings: []api.Crossing{{From: 1, To: 99, Bits: 1}}, Losses: []api.Loss{{Router: 1, Bits: 2}, {Router: 99, Bits: 1}}}},
		{with(16, 5, 0, 0xffff), 6, api.Trace{Losses: []api.Loss{{Router: 6, Bits: 0xffff}}}},
	} {
		if got, e := trace.Run(tree(), c.p, c.router); e != api.OK || !same(got, c.want) {
			t.Errorf("%d: the trace is\n%v, %d, not\n%v", i, got, e, c.want)
		}
	}
}

// P14.1: packets of all sets and TTLs through the tables of domains, and through tables that know nothing of each other, against the definition.
func TestRun(t *testing.T) {
	next := random(1)
	check := func(name string, l []api.Table, sets int) {
		for _, b := range l {
			for range 3 {
				p := randomPacket(next, b, next(sets))
				want := ran(l, p, b.Router)
				if got, e := trace.Run(l, p, b.Router); e != api.OK || !same(got, want) {
					t.Fatalf("%s: of %v at %d the trace is\n%v, %d, not\n%v", name, p, b.Router, got, e, want)
				}
			}
		}
	}
	for i, l := range strangers() {
		check(fmt.Sprint("strange ", i), l, 4)
	}
	for i, d := range domains() {
		check(fmt.Sprint("domain ", i), d.tables, 256/d.plan.Length)
		check(fmt.Sprint("all of domain ", i), d.tables, 32)
	}
}

// P14.1, P14.4: the longest runs end, too: 64 bits that go apart, and never arrive.
func TestRunLongest(t *testing.T) {
	l := circling()
	for entropy := range 4 {
		p := api.Packet{Mode: api.ModeIndexed, Subdomain: 3, Length: 64, TTL: 63, Entropy: 5 * entropy, Set: entropy, Bits: math.MaxUint64}
		got, e := trace.Run(l, p, 7)
		if want := ran(l, p, 7); e != api.OK || !same(got, want) {
			t.Errorf("the trace is %v, %d, not %v", got, e, want)
		}
		if len(got.Crossings) > 64*63 || len(got.Crossings) < 63 || len(got.Deliveries) > 0 || trace.Lost(got) != math.MaxUint64 {
			t.Errorf("the trace has %d crossings, the deliveries %v and the losses %v", len(got.Crossings), got.Deliveries, got.Losses)
		}
	}
}

// wrongLists returns lists of tables that are not valid together, for all reasons, all of which have a table of the router 50.
func wrongLists(length int) [][]api.Table {
	spoilers := []func(l []api.Table){
		func(l []api.Table) { l[0].Router = 0 },
		func(l []api.Table) { l[2].Router = 100 },
		func(l []api.Table) { l[0].Router = 50 },
		func(l []api.Table) { l[2].Router = 50 },
		func(l []api.Table) { l[0].Router = 51 },
		func(l []api.Table) { l[0], l[1] = l[1], l[0] },
		func(l []api.Table) { l[0].Subdomain = 2 },
		func(l []api.Table) { l[2].Subdomain = 8 },
		func(l []api.Table) { l[2].Subdomain = 4 },
		func(l []api.Table) { l[2].Length = 0 },
		func(l []api.Table) { l[0].Length = 24 },
		func(l []api.Table) { l[2].Length = 72 - length },
		func(l []api.Table) { l[0].Length, l[0].Rows = 0, nil },
		func(l []api.Table) { l[1].Rows[0].ID = 0 },
		func(l []api.Table) { l[2].Rows[1].ID = 257 },
		func(l []api.Table) { l[0].Rows[1].Next = []int{100} },
		func(l []api.Table) { l[2].Rows[0].Next = []int{0} },
		func(l []api.Table) { l[2].Rows[0].Next = upTo(50, 25) },
		func(l []api.Table) { l[1].Rows[0].ID = 3 },
		func(l []api.Table) { l[0].Rows[0].Next = []int{3, 2} },
		func(l []api.Table) { l[2].Rows[0].Next = []int{60, 61} },
	}
	for _, n := range far {
		spoilers = append(spoilers, func(l []api.Table) { l[2].Router = n }, func(l []api.Table) { l[0].Subdomain = n }, func(l []api.Table) { l[2].Length = n })
		spoilers = append(spoilers, func(l []api.Table) { l[2].Rows[0].ID = n }, func(l []api.Table) { l[0].Rows[0].Next[0] = n })
	}
	var l [][]api.Table
	for _, spoil := range spoilers {
		one := []api.Table{of(40, length, row(1, 50), row(2, 41)), of(50, length, row(1, 50), row(2, 40)), of(60, length, row(1, 50), row(3, 60))}
		spoil(one)
		l = append(l, one)
	}
	var many []api.Table
	for router := 50; router < 75; router++ {
		many = append(many, of(router, length, row(1, 50)))
	}
	return append(l, many)
}

// right returns a valid packet of the subdomain 3.
func right(length int) api.Packet {
	return api.Packet{Mode: api.ModeIndexed, Subdomain: 3, Length: length, TTL: 9, Entropy: 3, Ingress: 1, Proto: 1, Bits: 255, Payload: "x"}
}

// wrongPackets returns packets that are not valid, for all reasons.
func wrongPackets(length int) []api.Packet {
	var l []api.Packet
	add := func(spoil func(p *api.Packet)) {
		p := right(length)
		spoil(&p)
		l = append(l, p)
	}
	for _, spoil := range []func(p *api.Packet){
		func(p *api.Packet) { *p = api.Packet{} },
		func(p *api.Packet) { p.Mode = 0 }, func(p *api.Packet) { p.Mode = 4 }, func(p *api.Packet) { p.Subdomain = 8 },
		func(p *api.Packet) { p.Set = 32 }, func(p *api.Packet) { p.Length = 0 }, func(p *api.Packet) { p.Length = 24 },
		func(p *api.Packet) { p.TTL = 64 }, func(p *api.Packet) { p.Ingress = 257 }, func(p *api.Packet) { p.Proto = 8 },
		func(p *api.Packet) { p.Payload = strings.Repeat("x", 65) },
	} {
		add(spoil)
	}
	if length < 64 {
		add(func(p *api.Packet) { p.Bits = 1 << length })
		add(func(p *api.Packet) { p.Bits |= 1 << 63 })
	}
	for _, n := range far {
		for _, spoil := range []func(p *api.Packet){
			func(p *api.Packet) { p.Mode = n }, func(p *api.Packet) { p.Subdomain = n }, func(p *api.Packet) { p.Set = n }, func(p *api.Packet) { p.Length = n },
			func(p *api.Packet) { p.TTL = n }, func(p *api.Packet) { p.Entropy = n }, func(p *api.Packet) { p.Ingress = n }, func(p *api.Packet) { p.Proto = n },
		} {
			add(spoil)
		}
	}
	return l
}

// refused checks that Run returns this error, and nothing else.
func refused(t *testing.T, l []api.Table, p api.Packet, router int, want api.Errno) {
	t.Helper()
	if got, e := trace.Run(l, p, router); e != want || !isZero(got) {
		t.Errorf("with the tables %v, the trace of %v at %d is %v, %d, not the error %d", l, p, router, got, e, want)
	}
}

// P14.1: each error alone.
func TestRunErrors(t *testing.T) {
	for _, length := range lengths {
		l := []api.Table{of(40, length, row(1, 50), row(2, 41)), of(50, length, row(1, 50), row(2, 40))}
		if got, e := trace.Run(l, right(length), 50); e != api.OK || isZero(got) {
			t.Fatalf("the trace of %v is %v, %d", right(length), got, e)
		}
		for _, wrong := range wrongLists(length) {
			refused(t, wrong, right(length), 50, api.ErrInvalid)
		}
		for _, wrong := range wrongPackets(length) {
			refused(t, l, wrong, 50, api.ErrInvalid)
		}
		// 41 is a next hop, but has no table.
		for _, router := range append(far, 0, 1, 39, 41, 49, 51, 99, 100) {
			refused(t, l, right(length), router, api.ErrUnknown)
			refused(t, nil, right(length), router, api.ErrUnknown)
		}
		engineered := right(length)
		engineered.Mode = api.ModeEngineered
		refused(t, l, engineered, 50, api.ErrState)
		for other := range 8 {
			p := right(length)
			p.Subdomain = other
			if other != 3 {
				refused(t, l, p, 50, api.ErrConflict)
			}
		}
		for _, other := range lengths {
			if other != length {
				refused(t, l, right(other), 40, api.ErrConflict)
			}
		}
		refused(t, []api.Table{{Router: 50, Subdomain: 3}}, right(length), 50, api.ErrConflict)
	}
}

// P14.1: the order of the errors. Each case has all the mistakes of those that follow.
func TestRunOrderOfErrors(t *testing.T) {
	for _, length := range lengths {
		l := []api.Table{of(40, length, row(1, 50), row(2, 41)), of(50, length, row(1, 50), row(2, 40))}
		p := right(length)
		p.Subdomain = 4
		refused(t, l, p, 50, api.ErrConflict)
		p.Mode = api.ModeEngineered
		refused(t, l, p, 50, api.ErrState)
		refused(t, l, p, 41, api.ErrUnknown)
		refused(t, nil, p, 50, api.ErrUnknown)
		for _, wrong := range wrongLists(length) {
			refused(t, wrong, p, 50, api.ErrInvalid)
			refused(t, wrong, right(length), 42, api.ErrInvalid)
		}
		for _, wrong := range wrongPackets(length) {
			if wrong.Mode == api.ModeIndexed {
				wrong.Mode = api.ModeEngineered
			}
			refused(t, l, wrong, 50, api.ErrInvalid)
			refused(t, l, wrong, 42, api.ErrInvalid)
			refused(t, nil, wrong, 50, api.ErrInvalid)
		}
	}
}

// P14.1: packets without bits have the same errors, and tables without rows lose all.
func TestRunOfEmpty(t *testing.T) {
	p := right(8)
	p.Bits = 0
	l := []api.Table{of(50, 8)}
	if got, e := trace.Run(l, p, 50); e != api.OK || !isZero(got) {
		t.Errorf("the trace of a packet without bits is %v, %d", got, e)
	}
	if got, e := trace.Run(l, right(8), 50); e != api.OK || !same(got, api.Trace{Losses: []api.Loss{{Router: 50, Bits: 255}}}) {
		t.Errorf("the trace with a table without rows is %v, %d", got, e)
	}
	refused(t, []api.Table{of(0, 8)}, p, 0, api.ErrInvalid)
	refused(t, l, api.Packet{}, 50, api.ErrInvalid)
	refused(t, l, p, 0, api.ErrUnknown)
	p.Mode = api.ModeEngineered
	refused(t, l, p, 50, api.ErrState)
	p.Mode, p.Subdomain = api.ModeProbe, 0
	refused(t, l, p, 50, api.ErrConflict)
}

// delivered returns a delivery of these bits at a router.
func delivered(router int, bits uint64) api.Delivery {
	return api.Delivery{Router: router, Packet: api.Packet{Bits: bits}}
}

// P14.2: known traces, also such as Run never returns.
func TestSummariesKnown(t *testing.T) {
	for i, c := range []struct {
		trace          api.Trace
		received, lost uint64
		routers        []int
	}{
		{},
		{trace: api.Trace{Crossings: []api.Crossing{{From: 1, To: 2, Bits: 3}}}},
		{trace: api.Trace{Losses: []api.Loss{{Router: 3, Bits: 6}}}, lost: 6},
		{trace: api.Trace{Losses: []api.Loss{{Router: 3, Bits: 6}, {Router: 3, Bits: 12}, {Router: -1, Bits: 1 << 63}}}, lost: 1<<63 | 14},
		{trace: api.Trace{Deliveries: []api.Delivery{delivered(7, 5)}}, received: 5, routers: []int{7}},
		{
			trace: api.Trace{
				Deliveries: []api.Delivery{delivered(7, 1), delivered(3, 2), delivered(7, 4), delivered(99, 6), delivered(3, 1<<63)},
				Losses:     []api.Loss{{Router: 50, Bits: 6}}, Crossings: []api.Crossing{{From: 8, To: 9, Bits: 1 << 40}},
			},
			received: 1<<63 | 7, lost: 6, routers: []int{3, 7, 99},
		},
		{
			trace:    api.Trace{Deliveries: []api.Delivery{delivered(math.MaxInt, math.MaxUint64), delivered(0, 0), delivered(math.MinInt, 1), delivered(0, 0)}},
			received: math.MaxUint64, routers: []int{math.MinInt, 0, math.MaxInt},
		},
	} {
		received, lost, routers := trace.Received(c.trace), trace.Lost(c.trace), trace.Routers(c.trace)
		if received != c.received || lost != c.lost || !slices.Equal(routers, c.routers) {
			t.Errorf("%d: %x are received, %x are lost, the routers are %v", i, received, lost, routers)
		}
	}
}

// P14.2: each single bit and each router, at each place of a trace.
func TestSummaries(t *testing.T) {
	for bit := range 64 {
		one := uint64(1) << bit
		for n := range 20 {
			x := api.Trace{Deliveries: make([]api.Delivery, 20), Losses: make([]api.Loss, 20), Crossings: make([]api.Crossing, 20)}
			x.Deliveries[n] = delivered(1+bit, one)
			x.Losses[n] = api.Loss{Router: 70, Bits: one << 1}
			x.Crossings[n] = api.Crossing{From: 80, To: 90, Bits: one << 2}
			if got := trace.Received(x); got != one {
				t.Errorf("Received is %x, not %x", got, one)
			}
			if got := trace.Lost(x); got != one<<1 {
				t.Errorf("Lost is %x, not %x", got, one<<1)
			}
			if got := trace.Routers(x); !slices.Equal(got, []int{0, 1 + bit}) {
				t.Errorf("Routers are %v, not 0 and %d", got, 1+bit)
			}
		}
	}
}

// P14.2: any routers in any order.
func TestRoutersAny(t *testing.T) {
	next := random(2)
	for n := range 60 {
		var x api.Trace
		all := map[int]bool{}
		for range n {
			router := next(1 + n)
			all[router] = true
			x.Deliveries = append(x.Deliveries, delivered(router, 1))
		}
		got := trace.Routers(x)
		if len(got) != len(all) || !slices.IsSorted(got) || slices.ContainsFunc(got, func(r int) bool { return !all[r] }) {
			t.Errorf("Routers of %v are %v", x.Deliveries, got)
		}
	}
}

// P14.3: known paths, and each error.
func TestPathKnown(t *testing.T) {
	for i, c := range []struct {
		from, id, plane int
		want            []int
		code            api.Errno
	}{
		{from: 1, id: 1, want: []int{2, 4}}, {from: 2, id: 1, want: []int{4}}, {from: 4, id: 1}, {from: 1, id: 2, plane: 7, want: []int{3}},
		{from: 1, id: 4}, {from: 1, id: 12, plane: 5}, {from: 2, id: 4}, {from: 1, id: 5, want: []int{3, 6}}, {from: 1, id: 6, want: []int{2, 6}},
		{from: 1, id: 10, plane: 0, want: []int{2}}, {from: 1, id: 10, plane: 6, want: []int{2}}, {from: 1, id: 10, plane: 1, code: api.ErrNone}, {from: 1, id: 10, plane: 7, code: api.ErrNone},
		{from: 1, id: 3, code: api.ErrUnknown}, {from: 5, id: 3, code: api.ErrUnknown}, {from: 1, id: 8, code: api.ErrUnknown}, {from: 1, id: 17, code: api.ErrUnknown},
		{from: 9, id: 8, code: api.ErrUnknown}, {from: 0, id: 1, code: api.ErrUnknown}, {from: 99, id: 17, code: api.ErrUnknown}, {from: 100, id: 1, code: api.ErrUnknown},
		{from: 1, id: 9, code: api.ErrNone}, {from: 1, id: 11, code: api.ErrNone}, {from: 2, id: 11, code: api.ErrNone}, {from: 1, id: 0, code: api.ErrNone}, {from: 1, id: 257, code: api.ErrNone},
		{from: 1, id: 7, code: api.ErrLoop}, {from: 7, id: 7, code: api.ErrLoop}, {from: 8, id: 7, plane: 3, code: api.ErrLoop},
		{from: 1, id: 1, plane: -1, code: api.ErrRange}, {from: 1, id: 1, plane: 8, code: api.ErrRange},
	} {
		if got, e := trace.Path(tree(), c.from, c.id, c.plane); e != c.code || !slices.Equal(got, c.want) {
			t.Errorf("%d: Path is %v, %d, not %v, %d", i, got, e, c.want, c.code)
		}
	}
}

// way returns what Path returns for valid tables and a valid plane, by the definition: more steps than there are tables come to a router again.
func way(l []api.Table, from, id, plane int) ([]int, api.Errno) {
	path := []int{from}
	for range len(l) + 1 {
		at := path[len(path)-1]
		b, ok := find(l, at)
		if !ok {
			return nil, api.ErrUnknown
		}
		switch next := hop(b, id, plane); next {
		case 0:
			return nil, api.ErrNone
		case at:
			return path[1:], api.OK
		default:
			path = append(path, next)
		}
	}
	return nil, api.ErrLoop
}

// P14.3: from all routers and for all identifiers, against the definition.
func TestPath(t *testing.T) {
	next := random(3)
	lists := strangers()
	for _, d := range domains() {
		lists = append(lists, d.tables)
	}
	codes := map[api.Errno]int{}
	for i, l := range lists {
		routers := []int{0, 1, 50, 99, 100}
		for _, b := range l {
			routers = append(routers, b.Router)
		}
		for _, from := range routers {
			for range 10 {
				id, plane := next(150), next(8)
				want, code := way(l, from, id, plane)
				got, e := trace.Path(l, from, id, plane)
				if e != code || !slices.Equal(got, want) {
					t.Fatalf("%d: Path of %d in the plane %d is %v, %d, not %v, %d", i, id, plane, got, e, want, code)
				}
				codes[e]++
			}
		}
	}
	for _, e := range []api.Errno{api.OK, api.ErrUnknown, api.ErrNone, api.ErrLoop} {
		if codes[e] < 100 {
			t.Errorf("there are only %d paths with the error %d", codes[e], e)
		}
	}
}

// P14.3: the longest paths, of 24 routers in a chain, and the longest circle.
func TestPathLongest(t *testing.T) {
	var l []api.Table
	for router := 1; router <= 24; router++ {
		l = append(l, of(router, 8, row(1, min(router+1, 24)), row(2, router%24+1)))
	}
	for from := 1; from <= 24; from++ {
		if got, e := trace.Path(l, from, 1, 0); e != api.OK || !slices.Equal(got, upTo(from+1, 24-from)) {
			t.Errorf("Path from %d is %v, %d", from, got, e)
		}
		if got, e := trace.Path(l, from, 2, 0); e != api.ErrLoop || len(got) > 0 {
			t.Errorf("Path in the circle from %d is %v, %d", from, got, e)
		}
	}
}

// P14.3: numbers out of range, and the order of the errors. Each case has mistakes of those that follow.
func TestPathErrors(t *testing.T) {
	l := tree()
	check := func(l []api.Table, from, id, plane int, want api.Errno) {
		t.Helper()
		if got, e := trace.Path(l, from, id, plane); e != want || len(got) > 0 {
			t.Errorf("with the tables %v, Path from %d of %d in the plane %d is %v, %d, not the error %d", l, from, id, plane, got, e, want)
		}
	}
	for _, n := range append(far, 0, 257, 300) {
		check(l, 1, n, 0, api.ErrNone)
	}
	for _, n := range append(far, 0, 9, 10, 98, 99, 100) {
		check(l, n, 1, 0, api.ErrUnknown)
		check(l, n, 0, 0, api.ErrUnknown)
		check(nil, n, 1, 0, api.ErrUnknown)
	}
	for _, n := range append(far, 8, 9, 63) {
		for _, id := range []int{0, 1, 3, 7, 9} {
			check(l, 1, id, n, api.ErrRange)
			check(l, 0, id, n, api.ErrRange)
			check(nil, 9, id, n, api.ErrRange)
		}
	}
	for _, length := range lengths {
		for _, wrong := range wrongLists(length) {
			for _, from := range []int{0, 50, 51} {
				check(wrong, from, 1, 0, api.ErrInvalid)
				check(wrong, from, 77, 7, api.ErrInvalid)
				check(wrong, from, -1, -1, api.ErrInvalid)
				check(wrong, from, 2, 8, api.ErrInvalid)
			}
		}
	}
}

// ends returns how often each bit is in a delivery or a loss.
func ends(x api.Trace) [64]int {
	var times [64]int
	for bit := range 64 {
		for _, d := range x.Deliveries {
			times[bit] += int(d.Packet.Bits >> bit % 2)
		}
		for _, loss := range x.Losses {
			times[bit] += int(loss.Bits >> bit % 2)
		}
	}
	return times
}

// chainOf returns the routers to which a bit has crossed, one after another, and false if these crossings do not follow each other.
func chainOf(x api.Trace, router, bit int) ([]int, bool) {
	var chain []int
	at := router
	for _, c := range x.Crossings {
		if c.Bits>>bit%2 == 0 {
			continue
		}
		if c.From != at || c.To == at {
			return nil, false
		}
		at = c.To
		chain = append(chain, at)
	}
	return chain, true
}

// P14.4: whatever the tables are, each bit ends once, and there where it has come, over as many crossings as its TTL has lost. So no two crossings with it leave a router with the same TTL.
func TestConsequences(t *testing.T) {
	next := random(4)
	lists := append(strangers(), circling())
	for _, d := range domains() {
		lists = append(lists, d.tables)
	}
	for i, l := range lists {
		for _, b := range l {
			p := randomPacket(next, b, next(2))
			x, e := trace.Run(l, p, b.Router)
			if e != api.OK {
				t.Fatalf("%d: Run is %d", i, e)
			}
			if trace.Received(x)&trace.Lost(x) != 0 || trace.Received(x)|trace.Lost(x) != p.Bits {
				t.Errorf("%d: of the bits %x, %x are received, %x are lost", i, p.Bits, trace.Received(x), trace.Lost(x))
			}
			times, bits := ends(x), 0
			for bit := range 64 {
				bits += int(p.Bits >> bit % 2)
				if times[bit] != int(p.Bits>>bit%2) {
					t.Errorf("%d: the bit %d of %x ends %d times", i, bit, p.Bits, times[bit])
				}
				checkChain(t, x, p, b.Router, bit)
			}
			if len(x.Crossings) > bits*p.TTL {
				t.Errorf("%d: %d bits with the TTL %d cross %d links", i, bits, p.TTL, len(x.Crossings))
			}
		}
	}
}

// checkChain checks that a bit ends where its crossings have led it.
func checkChain(t *testing.T, x api.Trace, p api.Packet, router, bit int) {
	t.Helper()
	chain, ok := chainOf(x, router, bit)
	if !ok || len(chain) > p.TTL {
		t.Errorf("of the TTL %d, the bit %d crosses %v", p.TTL, bit, chain)
		return
	}
	last := router
	if len(chain) > 0 {
		last = chain[len(chain)-1]
	}
	for _, d := range x.Deliveries {
		if d.Packet.Bits == 1<<bit && d != arrived(p, last, bit, p.TTL-len(chain)) {
			t.Errorf("of %v, the delivery is %v behind %v", p, d, chain)
		}
	}
	for _, loss := range x.Losses {
		if loss.Bits>>bit%2 == 1 && loss.Router != last {
			t.Errorf("of the bits %x, those of %v are lost, behind %v", p.Bits, loss, chain)
		}
	}
}

// costOf returns what a way over capable routers costs, each of which is reached over a shortest path.
func costOf(n api.Topology, from int, way []int) int {
	sum := 0
	for _, to := range way {
		cost, _ := shortest.Cost(n, from, to)
		sum += cost
		from = to
	}
	return sum
}

// P14.4: with the tables of one topology, each edge router that can be reached gets its bit once, over its path, which is a shortest one.
func TestDomains(t *testing.T) {
	next := random(5)
	for i, d := range domains() {
		for _, b := range d.tables {
			for set := range 1 + 240/d.plan.Length {
				p := randomPacket(next, b, set)
				p.TTL = max(p.TTL, len(d.topology.Routers))
				p.Bits = math.MaxUint64 >> (64 - p.Length)
				x, e := trace.Run(d.tables, p, b.Router)
				if e != api.OK {
					t.Fatalf("%d: Run is %d", i, e)
				}
				var received uint64
				for _, edge := range d.plan.Edges {
					if bit := edge.ID - 1 - set*p.Length; bit >= 0 && bit < p.Length && checkEdge(t, d, x, p, b.Router, edge, bit) {
						received += 1 << bit
					}
				}
				if trace.Received(x) != received || trace.Lost(x) != p.Bits-received {
					t.Errorf("%d: %x are received, not %x; %x are lost", i, trace.Received(x), received, trace.Lost(x))
				}
			}
		}
	}
}

// checkEdge checks what has become of the bit of an edge router, and reports whether the edge router can be reached.
func checkEdge(t *testing.T, d domain, x api.Trace, p api.Packet, from int, edge api.Edge, bit int) bool {
	t.Helper()
	cost, ok := shortest.Cost(d.topology, from, edge.Router)
	if !ok || !topology.Capable(d.topology, edge.Router) {
		return false
	}
	path, e := trace.Path(d.tables, from, edge.ID, p.Entropy%8)
	if e != api.OK || costOf(d.topology, from, path) != cost || from != edge.Router && path[len(path)-1] != edge.Router {
		t.Errorf("the path from %d to %v is %v, %d", from, edge, path, e)
	}
	if chain, ok := chainOf(x, from, bit); !ok || !slices.Equal(chain, path) {
		t.Errorf("the bit from %d to %v takes the way %v, not %v", from, edge, chain, path)
	}
	times := 0
	for _, a := range x.Deliveries {
		if a == arrived(p, edge.Router, bit, p.TTL-len(path)) {
			times++
		}
	}
	if times != 1 {
		t.Errorf("the bit from %d to %v is delivered %d times", from, edge, times)
	}
	return true
}

// P14.4: if all routers are capable and shortest paths are unique, no link is crossed twice in one direction.
func TestUniquePaths(t *testing.T) {
	next := random(6)
	found := 0
	for i, d := range domains() {
		plain := slices.ContainsFunc(d.topology.Routers, func(r api.Router) bool { return !r.Capable })
		if plain || !shortest.Unique(d.topology) {
			continue
		}
		found++
		for _, b := range d.tables {
			p := randomPacket(next, b, next(2))
			p.Bits = math.MaxUint64 >> (64 - p.Length)
			x, _ := trace.Run(d.tables, p, b.Router)
			crossed := map[api.Hop]bool{}
			for _, c := range x.Crossings {
				if crossed[api.Hop{From: c.From, To: c.To}] {
					t.Errorf("%d: a link is crossed twice: %v", i, x.Crossings)
				}
				crossed[api.Hop{From: c.From, To: c.To}] = true
			}
		}
	}
	if found < 10 {
		t.Errorf("only %d domains have unique paths", found)
	}
}

// answers returns what all functions answer, as a text.
func answers(l []api.Table, p api.Packet, router int, x api.Trace) string {
	got, e := trace.Run(l, p, router)
	path, code := trace.Path(l, router, p.Set*p.Length+1, p.Entropy%8)
	return fmt.Sprintln(got, e, path, code, trace.Received(x), trace.Lost(x), trace.Routers(x))
}

// R5, R6: all functions leave their arguments as they are, and answer the same again, in memory of their own.
func TestArgumentsStay(t *testing.T) {
	next := random(7)
	lists := append(strangers(), tree())
	right16 := len(lists)
	for i, l := range append(lists, wrongLists(16)...) {
		p, router := right(16), 50
		if i < right16 {
			p, router = randomPacket(next, l[0], 0), l[0].Router
		}
		x := api.Trace{
			Deliveries: []api.Delivery{delivered(9, 1), delivered(7, 2), delivered(9, 4)},
			Crossings:  []api.Crossing{{From: 3, To: 2, Bits: 1}}, Losses: []api.Loss{{Router: 4, Bits: 8}, {Router: 3, Bits: 16}},
		}
		kept := copied(l)
		first := answers(l, p, router, x)
		got, _ := trace.Run(l, p, router)
		got.Deliveries = append(got.Deliveries[:cap(got.Deliveries)], delivered(-1, 9))
		path, _ := trace.Path(l, router, p.Set*p.Length+1, p.Entropy%8)
		for k := range path {
			path[k] = -1
		}
		for k, routers := 0, trace.Routers(x); k < len(routers); k++ {
			routers[k] = -1
		}
		if again := answers(l, p, router, x); again != first {
			t.Errorf("%d: the answers are first\n%s, then\n%s", i, first, again)
		}
		if !slices.EqualFunc(l, kept, func(a, b api.Table) bool { return fmt.Sprint(a) == fmt.Sprint(b) }) {
			t.Errorf("%d: the tables have changed", i)
		}
		want := api.Trace{
			Deliveries: []api.Delivery{delivered(9, 1), delivered(7, 2), delivered(9, 4)},
			Crossings:  []api.Crossing{{From: 3, To: 2, Bits: 1}}, Losses: []api.Loss{{Router: 4, Bits: 8}, {Router: 3, Bits: 16}},
		}
		if !same(x, want) {
			t.Errorf("%d: the trace has changed", i)
		}
	}
}
