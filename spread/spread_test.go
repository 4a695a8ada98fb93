package spread_test

import (
	"fmt"
	"math"
	"math/big"
	"slices"
	"strings"
	"testing"

	"bitcast/api"
	"bitcast/shortest"
	"bitcast/spread"
	"bitcast/table"
	"bitcast/topology"
	"bitcast/trace"
)

// far has numbers that are out of every range, some of which seem to be in one if only their lowest bits are looked at, or if they are multiplied.
var far = []int{math.MinInt, math.MinInt + 1, -1 << 61, -1 << 32, -1<<32 + 2, -257, -8, -2, -1, 1024, 1 << 32, 1<<32 + 1, 1<<32 + 2, 1 << 58, 1 << 61, 1<<61 + 1, 1 << 62, math.MaxInt - 1, math.MaxInt}

// lengths has the lengths of bit strings.
var lengths = []int{8, 16, 32, 64}

// random returns a fixed sequence of numbers below n, so that each run of the tests is the same.
func random(seed uint64) func(n int) int {
	return func(n int) int {
		seed = seed*6364136223846793005 + 1442695040888963407
		return int(seed >> 33 % uint64(n))
	}
}

// row returns a row with these next hops.
func row(id int, next ...int) api.Row { return api.Row{ID: id, Next: next} }

// of returns a table of the subdomain 3 with these rows.
func of(router, length int, rows ...api.Row) api.Table {
	return api.Table{Router: router, Subdomain: 3, Length: length, Rows: rows}
}

// upTo returns n numbers, the first one of which is low.
func upTo(low, n int) []int {
	var l []int
	for i := range n {
		l = append(l, low+i)
	}
	return l
}

// copied returns equal tables with memory of their own.
func copied(l []api.Table) []api.Table {
	c := slices.Clone(l)
	for i, b := range l {
		c[i].Rows = nil
		for _, r := range b.Rows {
			c[i].Rows = append(c[i].Rows, api.Row{ID: r.ID, Next: slices.Clone(r.Next)})
		}
	}
	return c
}

// strange returns valid tables of n routers that know nothing of each other. A row has the router itself, nothing, or up to most of the routers from 1 to greatest.
func strange(next func(int) int, n, length, greatest, most, own int) []api.Table {
	var l []api.Table
	subdomain := next(8)
	for _, router := range some(next, n, greatest) {
		b := api.Table{Router: router, Subdomain: subdomain, Length: length}
		for id := 1; id <= 256 && id <= 3*length; id++ {
			switch next(40) {
			case 0:
				continue
			case 1:
				b.Rows = append(b.Rows, row(id))
				continue
			}
			r := row(id, router)
			if next(own) > 0 {
				r.Next = slices.DeleteFunc(some(next, 1+next(most), greatest), func(hop int) bool { return hop == router })
			}
			b.Rows = append(b.Rows, r)
		}
		l = append(l, b)
	}
	return l
}

// some returns n different numbers from 1 to greatest, ascending.
func some(next func(int) int, n, greatest int) []int {
	var l []int
	for len(l) < n {
		if r := 1 + next(greatest); !slices.Contains(l, r) {
			l = append(l, r)
		}
	}
	slices.Sort(l)
	return l
}

// strangers returns lists of tables that may lead anywhere: in circles, to routers without tables, and nowhere.
func strangers() [][]api.Table {
	next := random(14)
	var l [][]api.Table
	for _, length := range lengths {
		for _, own := range []int{2, 9, 40, 1 << 30} {
			l = append(l, strange(next, 1, length, 4, 3, own), strange(next, 4, length, 4, 1, own), strange(next, 5, length, 6, 3, own))
			l = append(l, strange(next, 12, length, 99, 9, own), strange(next, 24, length, 25, 6, own), strange(next, 23, length, 24, 20, own))
		}
	}
	return l
}

// circling returns tables of 24 routers, through which packets with the length 64 never end but by their TTL, and bits go apart and together again.
func circling() []api.Table {
	var l []api.Table
	for i := range 24 {
		b := of(1+i, 64)
		for id := 1; id <= 256; id++ {
			var hops []int
			for k := range 24 {
				if k != i && (k*7+id*(i+3))%(2+id%5) == 0 {
					hops = append(hops, 1+k)
				}
			}
			b.Rows = append(b.Rows, row(id, hops...))
		}
		l = append(l, b)
	}
	return l
}

// meshed returns a topology of n routers, the numbers of which are so many apart, in which each pair has a link with one chance in thin, as far as there may be links. Costs are at most dear. Of each ten routers, about plain are not capable.
func meshed(next func(int) int, n, apart, thin, dear, plain int) api.Topology {
	var t api.Topology
	for i := range n {
		t.Routers = append(t.Routers, api.Router{ID: 1 + i*apart, Capable: next(10) >= plain})
	}
	for i, a := range t.Routers {
		for _, b := range t.Routers[i+1:] {
			if next(thin) == 0 && len(t.Links) < 60 {
				t.Links = append(t.Links, api.Link{A: a.ID, B: b.ID, CostA: 1 + next(dear), CostB: 1 + next(dear)})
			}
		}
	}
	return t
}

// planFor returns a plan with the routers of a topology, thinned out, in any order, and with others.
func planFor(next func(int) int, t api.Topology, thin int) api.Plan {
	p := api.Plan{Subdomain: next(8), Length: lengths[next(4)]}
	var routers []int
	for _, r := range t.Routers {
		if next(thin) == 0 {
			routers = slices.Insert(routers, next(len(routers)+1), r.ID)
		}
	}
	for _, n := range []int{1, 50, 98, 99} {
		if len(routers) < 24 && !slices.Contains(routers, n) && next(2) == 0 {
			routers = slices.Insert(routers, next(len(routers)+1), n)
		}
	}
	id := 0
	for _, r := range routers {
		id += 1 + next(10)
		p.Edges = append(p.Edges, api.Edge{Router: r, ID: id})
	}
	return p
}

// domain is a topology with a plan, and the tables for both.
type domain struct {
	topology api.Topology
	plan     api.Plan
	tables   []api.Table
}

// domains returns domains of many kinds.
func domains() []domain {
	next := random(41)
	var l []domain
	add := func(n api.Topology) {
		p := planFor(next, n, 1+next(2))
		tables, e := table.All(n, p)
		if e != api.OK {
			panic("these tables are not valid")
		}
		l = append(l, domain{n, p, tables})
	}
	for n := 1; n <= 24; n += 1 + n/4 {
		for _, plain := range []int{0, 0, 2, 5} {
			for _, dear := range []int{1, 2, 1000} {
				add(meshed(next, n, 1+next(4), 1+next(1+n/4), dear, plain))
			}
		}
	}
	return l
}

// randomPacket returns a valid packet of the subdomain and the length of a table, with this set.
func randomPacket(next func(int) int, b api.Table, set int) api.Packet {
	bits := uint64(next(1<<31))<<62 ^ uint64(next(1<<31))<<31 ^ uint64(next(1<<31))
	return api.Packet{
		Mode: api.ModeIndexed + 2*next(2), Subdomain: b.Subdomain, Set: set, Length: b.Length, TTL: next(64), Entropy: next(1024),
		Ingress: next(257), Proto: next(8), Bits: bits >> (64 - b.Length), Payload: strings.Repeat(string(rune('a'+next(26))), next(65)),
	}
}

// find returns the table of a router.
func find(l []api.Table, router int) (api.Table, bool) {
	for _, b := range l {
		if b.Router == router {
			return b, true
		}
	}
	return api.Table{}, false
}

// hop returns the next hop for an identifier in a plane, by the definition, from a valid table.
func hop(b api.Table, id, plane int) int {
	for _, r := range b.Rows {
		if r.ID == id && len(r.Next) > 0 {
			return r.Next[plane%len(r.Next)]
		}
	}
	return 0
}

// place is a router with bits that have come there.
type place struct {
	router int
	bits   uint64
}

// ran returns what becomes of a packet, by the definition: all packets with the same TTL are handled before those with a lesser one.
func ran(l []api.Table, p api.Packet, router int) api.Trace {
	var t api.Trace
	level := []place{{router, p.Bits}}
	for ttl := p.TTL; len(level) > 0; ttl-- {
		var behind []place
		for _, a := range level {
			b, ok := find(l, a.router)
			if !ok {
				t.Losses = append(t.Losses, api.Loss{Router: a.router, Bits: a.bits})
				continue
			}
			q := p
			q.TTL = ttl
			behind = append(behind, passed(&t, b, q, a.bits)...)
		}
		level = behind
	}
	return t
}

// passed adds to a trace what a router with a table makes of these bits of a packet, and returns where the others have come.
func passed(t *api.Trace, b api.Table, p api.Packet, bits uint64) []place {
	var behind []place
	var lost uint64
	for k := range p.Length {
		if bits>>k%2 == 0 {
			continue
		}
		next := hop(b, p.Set*p.Length+k+1, p.Entropy%8)
		at := slices.IndexFunc(behind, func(other place) bool { return other.router == next })
		switch {
		case next == b.Router:
			p.Bits = 1 << k
			t.Deliveries = append(t.Deliveries, api.Delivery{Router: next, Packet: p})
		case next == 0 || p.TTL == 0:
			lost += 1 << k
		case at >= 0:
			behind[at].bits += 1 << k
		default:
			behind = append(behind, place{next, 1 << k})
		}
	}
	if lost > 0 {
		t.Losses = append(t.Losses, api.Loss{Router: b.Router, Bits: lost})
	}
	for _, a := range behind {
		t.Crossings = append(t.Crossings, api.Crossing{From: b.Router, To: a.router, Bits: a.bits})
	}
	return behind
}

// way returns what Path returns for valid tables and a valid plane, by the definition: more steps than there are tables come to a router again.
func way(l []api.Table, from, id, plane int) ([]int, api.Errno) {
	path := []int{from}
	for range len(l) + 1 {
		at := path[len(path)-1]
		b, ok := find(l, at)
		if !ok {
			return nil, api.ErrUnknown
		}
		switch next := hop(b, id, plane); next {
		case 0:
			return nil, api.ErrNone
		case at:
			return path[1:], api.OK
		default:
			path = append(path, next)
		}
	}
	return nil, api.ErrLoop
}

// wrongLists returns lists of tables that are not valid together, for all reasons, all of which have a table of the router 50.
func wrongLists(length int) [][]api.Table {
	spoilers := []func(l []api.Table){
		func(l []api.Table) { l[0].Router = 0 },
		func(l []api.Table) { l[2].Router = 100 },
		func(l []api.Table) { l[0].Router = 50 },
		func(l []api.Table) { l[2].Router = 50 },
		func(l []api.Table) { l[0].Router = 51 },
		func(l []api.Table) { l[0], l[1] = l[1], l[0] },
		func(l []api.Table) { l[0].Subdomain = 2 },
		func(l []api.Table) { l[2].Subdomain = 8 },
		func(l []api.Table) { l[2].Subdomain = 4 },
		func(l []api.Table) { l[2].Length = 0 },
		func(l []api.Table) { l[0].Length = 24 },
		func(l []api.Table) { l[2].Length = 72 - length },
		func(l []api.Table) { l[0].Length, l[0].Rows = 0, nil },
		func(l []api.Table) { l[1].Rows[0].ID = 0 },
		func(l []api.Table) { l[2].Rows[1].ID = 257 },
		func(l []api.Table) { l[0].Rows[1].Next = []int{100} },
		func(l []api.Table) { l[2].Rows[0].Next = []int{0} },
		func(l []api.Table) { l[2].Rows[0].Next = upTo(50, 25) },
		func(l []api.Table) { l[1].Rows[0].ID = 3 },
		func(l []api.Table) { l[0].Rows[0].Next = []int{3, 2} },
		func(l []api.Table) { l[2].Rows[0].Next = []int{60, 61} },
	}
	for _, n := range far {
		spoilers = append(spoilers, func(l []api.Table) { l[2].Router = n }, func(l []api.Table) { l[0].Subdomain = n }, func(l []api.Table) { l[2].Length = n })
		spoilers = append(spoilers, func(l []api.Table) { l[2].Rows[0].ID = n }, func(l []api.Table) { l[0].Rows[0].Next[0] = n })
	}
	var l [][]api.Table
	for _, spoil := range spoilers {
		one := []api.Table{of(40, length, row(1, 50), row(2, 41)), of(50, length, row(1, 50), row(2, 40)), of(60, length, row(1, 50), row(3, 60))}
		spoil(one)
		l = append(l, one)
	}
	var many []api.Table
	for router := 50; router < 75; router++ {
		many = append(many, of(router, length, row(1, 50)))
	}
	return append(l, many)
}

// right returns a valid packet of the subdomain 3.
func right(length int) api.Packet {
	return api.Packet{Mode: api.ModeIndexed, Subdomain: 3, Length: length, TTL: 9, Entropy: 3, Ingress: 1, Proto: 1, Bits: 255, Payload: "x"}
}

// wrongPackets returns packets that are not valid, for all reasons.
func wrongPackets(length int) []api.Packet {
	var l []api.Packet
	add := func(spoil func(p *api.Packet)) {
		p := right(length)
		spoil(&p)
		l = append(l, p)
	}
	for _, spoil := range []func(p *api.Packet){
		func(p *api.Packet) { *p = api.Packet{} },
		func(p *api.Packet) { p.Mode = 0 }, func(p *api.Packet) { p.Mode = 4 }, func(p *api.Packet) { p.Subdomain = 8 },
		func(p *api.Packet) { p.Set = 32 }, func(p *api.Packet) { p.Length = 0 }, func(p *api.Packet) { p.Length = 24 },
		func(p *api.Packet) { p.TTL = 64 }, func(p *api.Packet) { p.Ingress = 257 }, func(p *api.Packet) { p.Proto = 8 },
		func(p *api.Packet) { p.Payload = strings.Repeat("x", 65) },
	} {
		add(spoil)
	}
	if length < 64 {
		add(func(p *api.Packet) { p.Bits = 1 << length })
		add(func(p *api.Packet) { p.Bits |= 1 << 63 })
	}
	for _, n := range far {
		for _, spoil := range []func(p *api.Packet){
			func(p *api.Packet) { p.Mode = n }, func(p *api.Packet) { p.Subdomain = n }, func(p *api.Packet) { p.Set = n }, func(p *api.Packet) { p.Length = n },
			func(p *api.Packet) { p.TTL = n }, func(p *api.Packet) { p.Entropy = n }, func(p *api.Packet) { p.Ingress = n }, func(p *api.Packet) { p.Proto = n },
		} {
			add(spoil)
		}
	}
	return l
}

// costOf returns what a way over capable routers costs, each of which is reached over a shortest path.
func costOf(n api.Topology, from int, way []int) int {
	sum := 0
	for _, to := range way {
		cost, _ := shortest.Cost(n, from, to)
		sum += cost
		from = to
	}
	return sum
}

// samePaths reports whether two lists of paths are equal.
func samePaths(a, b [][]int) bool {
	return slices.EqualFunc(a, b, func(x, y []int) bool { return slices.Equal(x, y) })
}

// P15.1, P15.2: the chapter's example.
func TestExample(t *testing.T) {
	n := api.Topology{
		Routers: []api.Router{{ID: 1, Capable: true}, {ID: 2, Capable: true}, {ID: 3, Capable: true}, {ID: 4, Capable: true}},
		Links:   []api.Link{{A: 1, B: 2, CostA: 1, CostB: 1}, {A: 1, B: 3, CostA: 1, CostB: 1}, {A: 2, B: 4, CostA: 1, CostB: 1}, {A: 3, B: 4, CostA: 1, CostB: 1}},
	}
	l, e := table.All(n, api.Plan{Length: 8, Edges: []api.Edge{{Router: 4, ID: 1}}})
	if e != api.OK {
		t.Fatalf("All is %d", e)
	}
	want := [][]int{{2, 4}, {3, 4}, {2, 4}, {3, 4}, {2, 4}, {3, 4}, {2, 4}, {3, 4}}
	if got, e := spread.Paths(l, 1, 1); e != api.OK || !samePaths(got, want) {
		t.Errorf("the paths are %v, %d", got, e)
	}
	if got, e := spread.Distinct(l, 1, 1); e != api.OK || got != 2 {
		t.Errorf("%d paths are distinct, %d", got, e)
	}
	loads, e := spread.Loads(l, 1, api.Packet{Mode: api.ModeIndexed, Length: 8, TTL: 5, Bits: 1})
	if e != api.OK || !slices.Equal(loads, []api.Load{{From: 1, To: 2, Count: 4}, {From: 1, To: 3, Count: 4}, {From: 2, To: 4, Count: 4}, {From: 3, To: 4, Count: 4}}) {
		t.Errorf("the loads are %v, %d", loads, e)
	}
	if got := spread.Greatest(loads); got != 4 {
		t.Errorf("the greatest load is %d", got)
	}
}

// fan returns tables in which the router 1 has as many next hops to an identifier as this says, and each of the others is at its end.
func fan() []api.Table {
	b := of(1, 64)
	for id := 1; id <= 23; id++ {
		b.Rows = append(b.Rows, row(id, upTo(2, id)...))
	}
	l := []api.Table{b}
	for router := 2; router <= 24; router++ {
		b := of(router, 64)
		for id := 1; id <= 23; id++ {
			b.Rows = append(b.Rows, row(id, router))
		}
		l = append(l, b)
	}
	return l
}

// P15.1: a plane for each next hop, as far as there are planes.
func TestPathsOfFan(t *testing.T) {
	l := fan()
	for id := 1; id <= 23; id++ {
		var want [][]int
		for plane := range 8 {
			want = append(want, []int{2 + plane%id})
		}
		if got, e := spread.Paths(l, 1, id); e != api.OK || !samePaths(got, want) {
			t.Errorf("the paths to %d are %v, %d, not %v", id, got, e, want)
		}
		if got, e := spread.Distinct(l, 1, id); e != api.OK || got != min(id, 8) {
			t.Errorf("%d paths to %d are distinct, %d", got, id, e)
		}
		// A path without routers is a path, too.
		if got, e := spread.Paths(l, 2, id); e != api.OK || !samePaths(got, make([][]int, 8)) {
			t.Errorf("the paths from 2 to %d are %v, %d", id, got, e)
		}
		if got, e := spread.Distinct(l, 2, id); e != api.OK || got != 1 {
			t.Errorf("%d paths from 2 to %d are distinct, %d", got, id, e)
		}
	}
}

// P15.1: paths that are equal at their beginning, at their end, or but for their lengths.
func TestPathsKnown(t *testing.T) {
	l := []api.Table{
		of(1, 8, row(1, 2, 3), row(2, 2, 3, 4), row(3, 2), row(4, 2, 3), row(5, 2, 3, 4, 5)),
		of(2, 8, row(1, 4, 5, 6), row(2, 5), row(3, 2), row(4, 2), row(5, 6)),
		of(3, 8, row(1, 5, 6), row(2, 5), row(4, 2), row(5, 3)),
		of(4, 8, row(1, 6), row(2, 5), row(5, 2)),
		of(5, 8, row(1, 5), row(2, 6), row(5, 4)),
		of(6, 8, row(1, 6), row(2, 6), row(5, 6)),
	}
	for i, c := range []struct {
		from, id, distinct int
		want               [][]int
	}{
		{1, 1, 4, [][]int{{2, 4, 6}, {3, 6}, {2, 6}, {3, 6}, {2, 5}, {3, 6}, {2, 4, 6}, {3, 6}}},
		{2, 1, 3, [][]int{{4, 6}, {5}, {6}, {4, 6}, {5}, {6}, {4, 6}, {5}}},
		{1, 2, 3, [][]int{{2, 5, 6}, {3, 5, 6}, {4, 5, 6}, {2, 5, 6}, {3, 5, 6}, {4, 5, 6}, {2, 5, 6}, {3, 5, 6}}},
		{1, 3, 1, [][]int{{2}, {2}, {2}, {2}, {2}, {2}, {2}, {2}}},
		{2, 3, 1, make([][]int, 8)},
		{1, 4, 2, [][]int{{2}, {3, 2}, {2}, {3, 2}, {2}, {3, 2}, {2}, {3, 2}}},
		{1, 5, 4, [][]int{{2, 6}, {3}, {4, 2, 6}, {5, 4, 2, 6}, {2, 6}, {3}, {4, 2, 6}, {5, 4, 2, 6}}},
	} {
		if got, e := spread.Paths(l, c.from, c.id); e != api.OK || !samePaths(got, c.want) {
			t.Errorf("%d: the paths are %v, %d, not %v", i, got, e, c.want)
		}
		if got, e := spread.Distinct(l, c.from, c.id); e != api.OK || got != c.distinct {
			t.Errorf("%d: %d paths are distinct, %d, not %d", i, got, e, c.distinct)
		}
	}
}

// ways returns what Paths and Distinct return for valid tables, by the definition.
func ways(l []api.Table, from, id int) ([][]int, int, api.Errno) {
	var paths [][]int
	distinct := map[string]bool{}
	for plane := range 8 {
		path, e := way(l, from, id, plane)
		if e != api.OK {
			return nil, 0, e
		}
		paths = append(paths, path)
		distinct[fmt.Sprint(path)] = true
	}
	return paths, len(distinct), api.OK
}

// checkPaths checks the paths from a router to an identifier against the definition, and returns their error.
func checkPaths(t *testing.T, l []api.Table, from, id int) api.Errno {
	t.Helper()
	want, number, code := ways(l, from, id)
	if got, e := spread.Paths(l, from, id); e != code || !samePaths(got, want) {
		t.Fatalf("in the tables %v, the paths from %d to %d are %v, %d, not %v, %d", l, from, id, got, e, want, code)
	}
	if got, e := spread.Distinct(l, from, id); e != code || got != number {
		t.Fatalf("in the tables %v, %d paths from %d to %d are distinct, %d, not %d, %d", l, got, from, id, e, number, code)
	}
	return code
}

// P15.1: from all routers, against the definition.
func TestPaths(t *testing.T) {
	next := random(3)
	lists := strangers()
	for _, d := range domains() {
		lists = append(lists, d.tables)
	}
	codes := map[api.Errno]int{}
	for _, l := range lists {
		routers := []int{0, 50, 99, 100}
		for _, b := range l {
			routers = append(routers, b.Router)
		}
		for _, from := range routers {
			for range 3 {
				codes[checkPaths(t, l, from, next(150))]++
			}
		}
	}
	for _, e := range []api.Errno{api.OK, api.ErrUnknown, api.ErrNone, api.ErrLoop} {
		if codes[e] < 50 {
			t.Errorf("there are only %d lists of paths with the error %d", codes[e], e)
		}
	}
}

// endings returns tables in which the plane k has the error ends[k] from 1 to the identifier 1.
func endings(ends []api.Errno) []api.Table {
	l := []api.Table{of(1, 8, row(1, upTo(2, len(ends))...))}
	for k, end := range ends {
		router := 2 + k
		switch end {
		case api.OK:
			l = append(l, of(router, 8, row(1, router)))
		case api.ErrNone:
			l = append(l, of(router, 8, row(1)))
		case api.ErrLoop:
			l = append(l, of(router, 8, row(1, 1)))
		}
	}
	return l
}

// P15.1: the error is that of the first plane that has one, whichever plane this is; next hops for which there is no plane have none.
func TestPathsFirstError(t *testing.T) {
	all := []api.Errno{api.OK, api.ErrUnknown, api.ErrNone, api.ErrLoop}
	for _, one := range all {
		for _, two := range all {
			for _, three := range all {
				ends := []api.Errno{one, two, three}
				want := api.OK
				if i := slices.IndexFunc(ends, func(e api.Errno) bool { return e != api.OK }); i >= 0 {
					want = ends[i]
				}
				if e := checkPaths(t, endings(ends), 1, 1); e != want {
					t.Errorf("with the ends %v, the error is %d", ends, e)
				}
			}
		}
	}
	for at := range 12 {
		for _, one := range all {
			ends := make([]api.Errno, 12)
			ends[at] = one
			want := one
			if at >= 8 {
				want = api.OK
			}
			if e := checkPaths(t, endings(ends), 1, 1); e != want {
				t.Errorf("with the ends %v, the error is %d", ends, e)
			}
		}
	}
}

// P15.1: numbers out of range, and tables that are not valid together, which have their error first.
func TestPathsErrors(t *testing.T) {
	check := func(l []api.Table, from, id int, want api.Errno) {
		t.Helper()
		if got, e := spread.Paths(l, from, id); e != want || len(got) > 0 {
			t.Errorf("with the tables %v, the paths from %d to %d are %v, %d, not the error %d", l, from, id, got, e, want)
		}
		if got, e := spread.Distinct(l, from, id); e != want || got != 0 {
			t.Errorf("with the tables %v, %d paths from %d to %d are distinct, %d, not the error %d", l, got, from, id, e, want)
		}
	}
	l := fan()
	for _, n := range append(far, 0, 24, 257, 300) {
		check(l, 1, n, api.ErrNone)
	}
	for _, n := range append(far, 0, 25, 98, 99, 100) {
		check(l, n, 1, api.ErrUnknown)
		check(l, n, 0, api.ErrUnknown)
		check(nil, n, 1, api.ErrUnknown)
	}
	for _, length := range lengths {
		for _, wrong := range wrongLists(length) {
			for _, from := range []int{0, 50, 51} {
				check(wrong, from, 1, api.ErrInvalid)
				check(wrong, from, 77, api.ErrInvalid)
				check(wrong, from, -1, api.ErrInvalid)
			}
		}
	}
}

// loaded returns what Loads returns for what can run, by the definition: each pair of routers in turn, as far as something crosses between them.
func loaded(l []api.Table, from int, p api.Packet) []api.Load {
	var times [100][100]int
	for entropy := range 8 {
		p.Entropy = entropy
		for _, c := range ran(l, p, from).Crossings {
			times[c.From][c.To]++
		}
	}
	var loads []api.Load
	for from := range times {
		for to, n := range times[from] {
			if n > 0 {
				loads = append(loads, api.Load{From: from, To: to, Count: n})
			}
		}
	}
	return loads
}

// P15.2: some planes take one link, some another one, some none; a link is crossed once for each copy, in each direction for itself.
func TestLoadsKnown(t *testing.T) {
	l := []api.Table{
		of(2, 16, row(1, 4), row(2, 5), row(3, 4, 5, 30), row(4, 5), row(5), row(6, 30), row(7, 4, 5)),
		of(4, 16, row(1, 2), row(2, 4), row(3, 4), row(4, 4)),
		of(5, 16, row(1, 5), row(2, 4), row(3, 5), row(4, 2)),
	}
	p := right(16)
	for i, c := range []struct {
		from, ttl int
		bits      uint64
		want      []api.Load
	}{
		{2, 9, 0, nil},
		{2, 0, 255, nil},
		{2, 9, 1 << 4, nil},
		{4, 9, 1<<1 | 1<<2, nil},
		{2, 1, 1, []api.Load{{From: 2, To: 4, Count: 8}}},
		{2, 2, 1, []api.Load{{From: 2, To: 4, Count: 8}, {From: 4, To: 2, Count: 8}}},
		{2, 5, 1, []api.Load{{From: 2, To: 4, Count: 24}, {From: 4, To: 2, Count: 16}}},
		{2, 9, 1 << 1, []api.Load{{From: 2, To: 5, Count: 8}, {From: 5, To: 4, Count: 8}}},
		{2, 9, 1 << 2, []api.Load{{From: 2, To: 4, Count: 3}, {From: 2, To: 5, Count: 3}, {From: 2, To: 30, Count: 2}}},
		{2, 9, 1<<2 | 1<<1, []api.Load{{From: 2, To: 4, Count: 3}, {From: 2, To: 5, Count: 8}, {From: 2, To: 30, Count: 2}, {From: 5, To: 4, Count: 8}}},
		{2, 1, 1<<5 | 1<<0, []api.Load{{From: 2, To: 4, Count: 8}, {From: 2, To: 30, Count: 8}}},
		{2, 3, 1 << 3, []api.Load{{From: 2, To: 5, Count: 16}, {From: 5, To: 2, Count: 8}}},
		{2, 9, 1 << 6, []api.Load{{From: 2, To: 4, Count: 4}, {From: 2, To: 5, Count: 4}}},
		{5, 9, 1<<1 | 1<<3, []api.Load{{From: 2, To: 5, Count: 32}, {From: 5, To: 2, Count: 40}, {From: 5, To: 4, Count: 8}}},
	} {
		p.TTL, p.Bits = c.ttl, c.bits
		if got, e := spread.Loads(l, c.from, p); e != api.OK || !slices.Equal(got, c.want) {
			t.Errorf("%d: the loads are %v, %d, not %v", i, got, e, c.want)
		}
	}
}

// P15.2: packets of all sets and TTLs through the tables of domains, and through tables that know nothing of each other, against the definition. The packet's own Entropy does not matter.
func TestLoads(t *testing.T) {
	next := random(1)
	check := func(name string, l []api.Table) {
		for _, b := range l[:min(len(l), 5)] {
			p := randomPacket(next, b, next(2))
			p.TTL %= 30
			want := loaded(l, b.Router, p)
			if got, e := spread.Loads(l, b.Router, p); e != api.OK || !slices.Equal(got, want) {
				t.Fatalf("%s: of %v at %d the loads are\n%v, %d, not\n%v", name, p, b.Router, got, e, want)
			}
		}
	}
	for i, l := range strangers() {
		check(fmt.Sprint("strange ", i), l)
	}
	for i, d := range domains() {
		check(fmt.Sprint("domain ", i), d.tables)
	}
}

// P15.2: the most crossings: in each run, 64 bits that go apart, and never arrive.
func TestLoadsLongest(t *testing.T) {
	l := circling()
	p := api.Packet{Mode: api.ModeIndexed, Subdomain: 3, Length: 64, TTL: 63, Bits: math.MaxUint64}
	got, e := spread.Loads(l, 7, p)
	if want := loaded(l, 7, p); e != api.OK || !slices.Equal(got, want) {
		t.Errorf("the loads are %v, %d, not %v", got, e, want)
	}
}

// refused checks that Loads returns this error, and nothing else.
func refused(t *testing.T, l []api.Table, from int, p api.Packet, want api.Errno) {
	t.Helper()
	if got, e := spread.Loads(l, from, p); e != want || len(got) > 0 {
		t.Errorf("with the tables %v, the loads of %v from %d are %v, %d, not the error %d", l, p, from, got, e, want)
	}
}

// crossing returns tables between which something crosses.
func crossing(length int) []api.Table {
	return []api.Table{of(40, length, row(1, 50), row(2, 41)), of(50, length, row(1, 50), row(2, 40), row(4, 41, 42, 43))}
}

// P15.2: each error alone. An Entropy out of range is none, since each run has its own one.
func TestLoadsErrors(t *testing.T) {
	for _, length := range lengths {
		l := crossing(length)
		want := []api.Load{{From: 40, To: 41, Count: 8}, {From: 50, To: 40, Count: 8}, {From: 50, To: 41, Count: 3}, {From: 50, To: 42, Count: 3}, {From: 50, To: 43, Count: 2}}
		for _, entropy := range append(far, 0, 1, 7, 8, 1023, 1024) {
			p := right(length)
			p.Entropy = entropy
			if got, e := spread.Loads(l, 50, p); e != api.OK || !slices.Equal(got, want) {
				t.Errorf("with the entropy %d, the loads are %v, %d", entropy, got, e)
			}
		}
		for _, wrong := range wrongLists(length) {
			refused(t, wrong, 50, right(length), api.ErrInvalid)
		}
		for _, wrong := range wrongPackets(length) {
			mended := wrong
			mended.Entropy = right(length).Entropy
			if mended != right(length) {
				refused(t, l, 50, wrong, api.ErrInvalid)
			}
		}
		// 41 is a next hop, but has no table.
		for _, from := range append(far, 0, 1, 39, 41, 49, 51, 99, 100) {
			refused(t, l, from, right(length), api.ErrUnknown)
			refused(t, nil, from, right(length), api.ErrUnknown)
		}
		p := right(length)
		p.Mode = api.ModeEngineered
		refused(t, l, 50, p, api.ErrState)
		p = right(length)
		p.Subdomain = 4
		refused(t, l, 50, p, api.ErrConflict)
		for _, other := range lengths {
			if other != length {
				refused(t, l, 40, right(other), api.ErrConflict)
			}
		}
	}
}

// P15.2: the order of the errors. Each case has all the mistakes of those that follow.
func TestLoadsOrderOfErrors(t *testing.T) {
	for _, length := range lengths {
		l := crossing(length)
		p := right(length)
		p.Subdomain = 4
		refused(t, l, 50, p, api.ErrConflict)
		p.Mode = api.ModeEngineered
		refused(t, l, 50, p, api.ErrState)
		refused(t, l, 41, p, api.ErrUnknown)
		for _, wrong := range wrongLists(length) {
			refused(t, wrong, 41, p, api.ErrInvalid)
		}
		p.Proto = 8
		refused(t, l, 41, p, api.ErrInvalid)
		refused(t, nil, 50, p, api.ErrInvalid)
	}
}

// P15.2: known loads, also such as Loads never returns.
func TestGreatest(t *testing.T) {
	for i, c := range []struct {
		loads []api.Load
		want  int
	}{
		{nil, 0},
		{[]api.Load{}, 0},
		{[]api.Load{{From: 9, To: 8, Count: 1}}, 1},
		{[]api.Load{{From: 9, To: 8, Count: 0}}, 0},
		{[]api.Load{{From: 1, To: 2, Count: 8}, {From: 9, To: 8, Count: 5}}, 8},
		{[]api.Load{{From: 1, To: 2, Count: 5}, {From: 1, To: 3, Count: 9}, {From: 9, To: 8, Count: 8}}, 9},
		{[]api.Load{{From: 1, To: 2, Count: 5}, {From: 9, To: 8, Count: 8}, {From: 2, To: 4, Count: 8}}, 8},
		{[]api.Load{{Count: -3}}, -3},
		{[]api.Load{{Count: math.MinInt}, {Count: -9}, {Count: math.MinInt + 1}}, -9},
		{[]api.Load{{Count: math.MinInt}, {Count: math.MaxInt}}, math.MaxInt},
	} {
		if got := spread.Greatest(c.loads); got != c.want {
			t.Errorf("%d: the greatest load is %d, not %d", i, got, c.want)
		}
	}
	next := random(2)
	for n := 1; n < 60; n++ {
		var loads []api.Load
		greatest := 0
		for range n {
			loads = append(loads, api.Load{From: next(9999), To: next(9999), Count: next(1000)})
			greatest = max(greatest, loads[len(loads)-1].Count)
		}
		if got := spread.Greatest(loads); got != greatest {
			t.Errorf("the greatest of %v is %d", loads, got)
		}
	}
}

// hashed returns the entropy of a flow by the definition, in whole numbers without limits.
func hashed(source, group int) int {
	n := new(big.Int).Mul(big.NewInt(int64(source)), big.NewInt(31))
	n.Add(n, big.NewInt(int64(group)))
	n.Mul(n, big.NewInt(2654435761))
	// Mod has no negative results, as numbers modulo 2^32 have none.
	n.Mod(n, new(big.Int).Lsh(big.NewInt(1), 32))
	return int(n.Int64() >> 22)
}

// P15.3: known entropies.
func TestEntropyKnown(t *testing.T) {
	for _, c := range []struct{ source, group, want int }{
		{0, 0, 0}, {0, 1, 632}, {1, 0, 162}, {1, 1, 795}, {1, 2, 404}, {2, 1, 958}, {7, 3, 990}, {99, 99, 954}, {-1, 0, 861}, {0, -1, 391}, {-1, 31, 0}, {4294967296, 0, 0}, {4294967297, 1, 795}, {9223372036854775807, 9223372036854775807, 228}, {-9223372036854775808, 1, 632},
	} {
		if got := spread.Entropy(c.source, c.group); got != c.want {
			t.Errorf("the entropy of %d, %d is %d, not %d", c.source, c.group, got, c.want)
		}
	}
}

// P15.3: all flows of the program, and numbers far out of range, against the definition.
func TestEntropy(t *testing.T) {
	check := func(source, group int) {
		got := spread.Entropy(source, group)
		if got != hashed(source, group) || got < 0 || got > api.MaxEntropy {
			t.Errorf("the entropy of %d, %d is %d, not %d", source, group, got, hashed(source, group))
		}
	}
	seen := map[int]bool{}
	for source := range 101 {
		for group := range 101 {
			check(source, group)
			seen[spread.Entropy(source, group)] = true
		}
	}
	// 2^32 / 1.618 is the factor, so that neighbouring flows fall far apart.
	if len(seen) < 1000 {
		t.Errorf("there are only %d entropies", len(seen))
	}
	odd := append(far, math.MaxInt32, math.MinInt32, math.MaxUint32, math.MaxUint32+1, 1<<31, 1<<31+1, 12345678901234)
	for _, one := range odd {
		for _, two := range append(odd, 0, 1, 7, 99) {
			check(one, two)
			check(two, one)
		}
	}
	next := random(5)
	for range 5000 {
		check(next(1<<31)<<32^next(1<<31)-1<<62, next(1<<31)<<31^next(1<<31)-1<<61)
	}
}

// changed is a packet that was made of another one, and whether it is still the same.
type changed struct {
	q    api.Packet
	want bool
}

// changes has changes of each field of a packet, the Entropy to each of these.
func changes(p api.Packet, entropies []int) []changed {
	var all []changed
	add := func(want bool, change func(q *api.Packet)) {
		q := p
		change(&q)
		all = append(all, changed{q, want || q == p})
	}
	add(true, func(q *api.Packet) { q.Payload = "other" })
	add(true, func(q *api.Packet) { q.Payload = "" })
	add(true, func(q *api.Packet) { q.Proto = 7 - q.Proto })
	add(true, func(q *api.Packet) { q.Ingress = 256 - q.Ingress })
	add(true, func(q *api.Packet) { q.Payload, q.Proto, q.Ingress, q.Entropy = "zz", 6, 200, q.Entropy%8+512 })
	add(false, func(q *api.Packet) { q.Mode = 4 - q.Mode })
	add(false, func(q *api.Packet) { q.Set = 31 - q.Set })
	add(false, func(q *api.Packet) { q.TTL = 63 - q.TTL })
	add(false, func(q *api.Packet) { q.Bits ^= 1 })
	add(false, func(q *api.Packet) { q.Bits ^= 1 << (q.Length - 1) })
	add(false, func(q *api.Packet) { q.Subdomain = (q.Subdomain + 1) % 8 })
	add(false, func(q *api.Packet) { q.Mode = api.ModeEngineered })
	for _, entropy := range entropies {
		add(entropy%8 == p.Entropy%8, func(q *api.Packet) { q.Entropy = entropy })
		add(false, func(q *api.Packet) { q.Entropy, q.Mode = entropy, 4-q.Mode })
	}
	return all
}

// P15.4: what differs in one field, or in several, through the tables of domains, and through tables that know nothing of each other.
func TestSame(t *testing.T) {
	next := random(6)
	lists := strangers()
	for _, d := range domains() {
		lists = append(lists, d.tables)
	}
	for i, l := range lists {
		if len(l) == 0 {
			continue
		}
		b := l[next(len(l))]
		p := randomPacket(next, b, next(2))
		p.TTL %= 20
		for _, c := range changes(p, []int{p.Entropy ^ 1, p.Entropy ^ 2, p.Entropy ^ 4, p.Entropy ^ 8, p.Entropy ^ 512, next(1024)}) {
			if got := spread.Same(l, b.Router, p, c.q); got != c.want {
				t.Fatalf("%d: Same of %v and %v is %v", i, p, c.q, got)
			}
			if got := spread.Same(l, b.Router, c.q, p); got != c.want {
				t.Fatalf("%d: Same of %v and %v is %v", i, c.q, p, got)
			}
		}
	}
}

// P15.4: what differs otherwise is not the same, even if nothing crosses a link, or all cross the same ones.
func TestSameCrossings(t *testing.T) {
	l := []api.Table{of(40, 8, row(1, 40), row(2, 41), row(3, 41), row(10, 41))}
	p := right(8)
	p.Bits = 1
	for i, c := range changes(p, upTo(0, 1024)) {
		if got := spread.Same(l, 40, p, c.q); got != c.want {
			t.Errorf("%d: Same of %v and %v, which stay, is %v", i, p, c.q, got)
		}
	}
	p.Bits, p.Set = 2, 0
	for i, c := range changes(p, upTo(0, 1024)) {
		if got := spread.Same(l, 40, p, c.q); got != c.want {
			t.Errorf("%d: Same of %v and %v, which leave once, is %v", i, p, c.q, got)
		}
	}
	q := p
	q.Set = 1
	if spread.Same(l, 40, p, q) {
		t.Error("packets of different sets are the same")
	}
	p.Entropy, q = 5, p
	q.Entropy = 6
	if spread.Same(l, 40, p, q) {
		t.Error("packets of different planes are the same")
	}
}

// P15.4: what cannot run is not the same, not even as itself, nor as what can run and differs in nothing else.
func TestSameErrors(t *testing.T) {
	check := func(l []api.Table, from int, p, q api.Packet) {
		t.Helper()
		if spread.Same(l, from, p, q) || spread.Same(l, from, q, p) {
			t.Errorf("with the tables %v, %v and %v from %d are the same", l, p, q, from)
		}
	}
	for _, length := range lengths {
		l, p := crossing(length), right(length)
		if !spread.Same(l, 50, p, p) {
			t.Errorf("%v is not the same", p)
		}
		for _, wrong := range wrongLists(length) {
			check(wrong, 50, p, p)
		}
		for _, wrong := range wrongPackets(length) {
			check(l, 50, p, wrong)
			check(l, 50, wrong, wrong)
		}
		for _, n := range []int{-8, 8, 1024, 1032, -1 << 62, 1 << 62} {
			q := p
			q.Entropy = p.Entropy%8 + n
			if n != 8 {
				check(l, 50, p, q)
			}
		}
		for _, from := range append(far, 0, 39, 41, 51, 99, 100) {
			check(l, from, p, p)
			check(nil, from, p, p)
		}
		q := p
		q.Mode = api.ModeEngineered
		check(l, 50, q, q)
		q = p
		q.Subdomain = 4
		check(l, 50, q, q)
		for _, other := range lengths {
			if other != length {
				check(l, 50, right(other), right(other))
				check(l, 50, p, right(other))
			}
		}
	}
}

// P15.4: that something cannot run shows in its error alone, if nothing crosses a link in the plane 0.
func TestSameErrorsAtHome(t *testing.T) {
	l := []api.Table{of(50, 8, row(1, 50), row(2))}
	p := api.Packet{Mode: api.ModeProbe, Subdomain: 3, Length: 8, TTL: 9, Entropy: 8, Bits: 3}
	if !spread.Same(l, 50, p, p) {
		t.Errorf("%v is not the same", p)
	}
	for _, spoil := range []func(q *api.Packet, n int){
		func(q *api.Packet, n int) { q.Payload = strings.Repeat("x", 65) },
		func(q *api.Packet, n int) { q.Proto = n },
		func(q *api.Packet, n int) { q.Ingress = n },
		func(q *api.Packet, n int) { q.Entropy = n },
	} {
		for _, n := range append(far, -8, -16, 1024, 1032, -1<<62, 1<<62) {
			q := p
			spoil(&q, n)
			if spread.Same(l, 50, p, q) || spread.Same(l, 50, q, p) || spread.Same(l, 50, q, q) {
				t.Errorf("%v and %v are the same", p, q)
			}
		}
	}
}

// wide returns a domain in which there are ten next hops on shortest paths.
func wide() domain {
	n := api.Topology{Routers: []api.Router{{ID: 1, Capable: true}}}
	for middle := 2; middle <= 11; middle++ {
		n.Routers = append(n.Routers, api.Router{ID: middle, Capable: true})
		n.Links = append(n.Links, api.Link{A: 1, B: middle, CostA: 2, CostB: 1})
	}
	n.Routers = append(n.Routers, api.Router{ID: 12, Capable: true})
	for middle := 2; middle <= 11; middle++ {
		n.Links = append(n.Links, api.Link{A: middle, B: 12, CostA: 3, CostB: 3})
	}
	p := api.Plan{Subdomain: 2, Length: 8, Edges: []api.Edge{{Router: 12, ID: 1}, {Router: 1, ID: 2}, {Router: 5, ID: 9}}}
	l, e := table.All(n, p)
	if e != api.OK {
		panic("these tables are not valid")
	}
	return domain{n, p, l}
}

// P15.5: with the tables of one topology, each path is a shortest one, and each of the first eight next hops begins one.
func TestShortest(t *testing.T) {
	begun := 0
	for i, d := range append(domains(), wide()) {
		for _, b := range d.tables {
			for _, edge := range d.plan.Edges {
				cost, ok := shortest.Cost(d.topology, b.Router, edge.Router)
				paths, e := spread.Paths(d.tables, b.Router, edge.ID)
				if !ok || !topology.Capable(d.topology, edge.Router) {
					if e != api.ErrNone {
						t.Errorf("%d: the paths from %d to %v are %v, %d", i, b.Router, edge, paths, e)
					}
					continue
				}
				if e != api.OK || len(paths) != 8 {
					t.Errorf("%d: the paths from %d to %v are %v, %d", i, b.Router, edge, paths, e)
				}
				for _, path := range paths {
					if costOf(d.topology, b.Router, path) != cost || b.Router != edge.Router && path[len(path)-1] != edge.Router {
						t.Errorf("%d: %v is no shortest path from %d to %v", i, path, b.Router, edge)
					}
				}
				r, _ := table.Row(b, edge.ID)
				for _, first := range r.Next[:min(8, len(r.Next))] {
					begun++
					if first != b.Router && !slices.ContainsFunc(paths, func(path []int) bool { return path[0] == first }) {
						t.Errorf("%d: no path from %d to %v begins with %d: %v", i, b.Router, edge, first, paths)
					}
				}
			}
		}
	}
	if begun < 1000 {
		t.Errorf("there are only %d next hops", begun)
	}
}

// P15.5: all packets of a flow with the same bits are the same.
func TestFlows(t *testing.T) {
	next := random(7)
	for i, d := range append(domains(), wide()) {
		for _, b := range d.tables {
			source, group := 1+next(99), 1+next(99)
			p := randomPacket(next, b, 0)
			p.Entropy = spread.Entropy(source, group)
			q := p
			q.Entropy, q.Payload, q.Proto = spread.Entropy(source, group), "another one", 7-p.Proto
			if !spread.Same(d.tables, b.Router, p, q) {
				t.Errorf("%d: %v and %v are not the same", i, p, q)
			}
		}
	}
}

// P15.5: the loads add up to the crossings of all runs; where there is no choice, all runs cross the same links.
func TestLoadsAddUp(t *testing.T) {
	next := random(8)
	for i, d := range append(domains(), wide()) {
		alone := copied(d.tables)
		for _, b := range alone {
			for k, r := range b.Rows {
				b.Rows[k].Next = r.Next[:min(1, len(r.Next))]
			}
		}
		for _, b := range d.tables {
			p := randomPacket(next, b, 0)
			p.Bits = math.MaxUint64 >> (64 - p.Length)
			loads, e := spread.Loads(d.tables, b.Router, p)
			rest := 0
			for _, load := range loads {
				rest += load.Count
			}
			for entropy := range 8 {
				q := p
				q.Entropy = entropy
				x, _ := trace.Run(d.tables, q, b.Router)
				rest -= len(x.Crossings)
			}
			if e != api.OK || rest != 0 {
				t.Errorf("%d: the loads from %d add up to %d more than the crossings, %d", i, b.Router, rest, e)
			}
			checkAlone(t, alone, b.Router, p)
		}
	}
}

// checkAlone checks that each load is eight times that of a single run, in tables without a choice.
func checkAlone(t *testing.T, l []api.Table, from int, p api.Packet) {
	t.Helper()
	x, _ := trace.Run(l, p, from)
	single := map[api.Hop]int{}
	for _, c := range x.Crossings {
		single[api.Hop{From: c.From, To: c.To}]++
	}
	loads, e := spread.Loads(l, from, p)
	if e != api.OK || len(loads) != len(single) {
		t.Errorf("the loads from %d are %v, %d, those of a single run %v", from, loads, e, single)
	}
	for _, load := range loads {
		if load.Count != 8*single[api.Hop{From: load.From, To: load.To}] {
			t.Errorf("the loads from %d are %v, those of a single run %v", from, loads, single)
		}
	}
}

// answers returns what all functions answer, as a text.
func answers(l []api.Table, p api.Packet, from int, loads []api.Load) string {
	paths, e := spread.Paths(l, from, p.Set*p.Length+1)
	number, code := spread.Distinct(l, from, p.Set*p.Length+1)
	got, wrong := spread.Loads(l, from, p)
	return fmt.Sprintln(paths, e, number, code, got, wrong, spread.Greatest(loads), spread.Same(l, from, p, p))
}

// R5, R6: all functions leave their arguments as they are, and answer the same again, in memory of their own.
func TestArgumentsStay(t *testing.T) {
	next := random(9)
	lists := append(strangers(), fan())
	right16 := len(lists)
	for i, l := range append(lists, wrongLists(16)...) {
		p, from := right(16), 50
		if i < right16 {
			p, from = randomPacket(next, l[0], 0), l[0].Router
		}
		loads := []api.Load{{From: 3, To: 4, Count: 5}, {From: 1, To: 2, Count: 9}, {From: 1, To: 2, Count: 1}}
		kept := copied(l)
		first := answers(l, p, from, loads)
		paths, _ := spread.Paths(l, from, p.Set*p.Length+1)
		for k, path := range paths {
			whole := path[:cap(path)]
			for at := range whole {
				whole[at] = -1 - k
			}
			paths[k] = append(path, -9)
		}
		for k, path := range paths {
			if slices.ContainsFunc(path, func(r int) bool { return r != -1-k && r != -9 }) {
				t.Errorf("%d: paths share memory: %v", i, paths)
			}
		}
		if again := answers(l, p, from, loads); again != first {
			t.Errorf("%d: the answers are first\n%s, then\n%s", i, first, again)
		}
		if !slices.EqualFunc(l, kept, func(a, b api.Table) bool { return fmt.Sprint(a) == fmt.Sprint(b) }) {
			t.Errorf("%d: the tables have changed", i)
		}
		if !slices.Equal(loads, []api.Load{{From: 3, To: 4, Count: 5}, {From: 1, To: 2, Count: 9}, {From: 1, To: 2, Count: 1}}) {
			t.Errorf("%d: the loads have changed", i)
		}
	}
}
