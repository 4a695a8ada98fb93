package ingress_test

import (
	"fmt"
	"math"
	"slices"
	"testing"

	"bitcast/api"
	"bitcast/ingress"
	"bitcast/shortest"
	"bitcast/table"
	"bitcast/topology"
)

// row returns a row with these next hops.
func row(id int, next ...int) api.Row { return api.Row{ID: id, Next: next} }

// of returns a table of the subdomain 3 with these rows.
func of(router, length int, rows ...api.Row) api.Table {
	return api.Table{Router: router, Subdomain: 3, Length: length, Rows: rows}
}

// copied returns equal tables with memory of their own.
func copied(l []api.Table) []api.Table {
	c := slices.Clone(l)
	for i, b := range l {
		c[i].Rows = nil
		for _, r := range b.Rows {
			c[i].Rows = append(c[i].Rows, api.Row{ID: r.ID, Next: slices.Clone(r.Next)})
		}
	}
	return c
}

// strange returns tables of n routers for a plan that know nothing of each other. A row has the router itself, nothing, or up to most of the routers from 1 to greatest.
func strange(next func(int) int, p api.Plan, n, greatest, most, own int) []api.Table {
	var l []api.Table
	for _, router := range some(next, n, greatest) {
		b := api.Table{Router: router, Subdomain: p.Subdomain, Length: p.Length}
		for _, edge := range p.Edges {
			switch next(20) {
			case 0:
				continue
			case 1:
				b.Rows = append(b.Rows, row(edge.ID))
				continue
			}
			r := row(edge.ID, router)
			if next(own) > 0 {
				r.Next = slices.DeleteFunc(some(next, 1+next(most), greatest), func(hop int) bool { return hop == router })
			}
			b.Rows = append(b.Rows, r)
		}
		l = append(l, b)
	}
	return l
}

// domain is a plan with tables. The topology is that for which these are the tables, if there is one.
type domain struct {
	topology api.Topology
	plan     api.Plan
	tables   []api.Table
}

// strangers returns tables that may lead anywhere: in circles, to routers without tables, and nowhere.
func strangers() []domain {
	next := random(14)
	var l []domain
	for _, length := range lengths {
		for _, own := range []int{2, 9, 40} {
			for _, c := range [][3]int{{1, 4, 3}, {4, 4, 1}, {5, 6, 3}, {12, 99, 9}, {24, 25, 6}, {23, 24, 20}} {
				p := planOf(next, length, some(next, 1+next(24), 99), 1+next(9), 1+next(10))
				l = append(l, domain{plan: p, tables: strange(next, p, c[0], c[1], c[2], own)})
			}
		}
	}
	return l
}

// meshed returns a topology of n routers, the numbers of which are so many apart, in which each pair has a link with one chance in thin, as far as there may be links. Costs are at most dear. Of each ten routers, about plain are not capable.
func meshed(next func(int) int, n, apart, thin, dear, plain int) api.Topology {
	var t api.Topology
	for i := range n {
		t.Routers = append(t.Routers, api.Router{ID: 1 + i*apart, Capable: next(10) >= plain})
	}
	for i, a := range t.Routers {
		for _, b := range t.Routers[i+1:] {
			if next(thin) == 0 && len(t.Links) < 60 {
				t.Links = append(t.Links, api.Link{A: a.ID, B: b.ID, CostA: 1 + next(dear), CostB: 1 + next(dear)})
			}
		}
	}
	return t
}

// edgesOf returns the numbers of some routers of a topology, and of others: at most as many as a plan may have.
func edgesOf(next func(int) int, t api.Topology, thin int) []int {
	l := slices.Clone([]int{98, 99}[:next(3)])
	for _, r := range t.Routers {
		if next(thin) == 0 && len(l) < 24 && !slices.Contains(l, r.ID) {
			l = append(l, r.ID)
		}
	}
	return l
}

// domains returns domains of many kinds.
func domains() []domain {
	next := random(41)
	var l []domain
	for n := 1; n <= 24; n += 1 + n/4 {
		for _, plain := range []int{0, 0, 2, 5} {
			for _, dear := range []int{1, 2, 1000} {
				t := meshed(next, n, 1+next(4), 1+next(1+n/4), dear, plain)
				p := planOf(next, lengths[next(4)], edgesOf(next, t, 1+next(2)), 1+next(9), 1+next(10))
				tables, e := table.All(t, p)
				if e != api.OK {
					panic("these tables are not valid")
				}
				l = append(l, domain{t, p, tables})
			}
		}
	}
	return l
}

// find returns the table of a router.
func find(l []api.Table, router int) (api.Table, bool) {
	for _, b := range l {
		if b.Router == router {
			return b, true
		}
	}
	return api.Table{}, false
}

// hop returns the next hop for an identifier in a plane, by the definition, from a valid table.
func hop(b api.Table, id, plane int) int {
	for _, r := range b.Rows {
		if r.ID == id && len(r.Next) > 0 {
			return r.Next[plane%len(r.Next)]
		}
	}
	return 0
}

// place is a router with bits that have come there.
type place struct {
	router int
	bits   uint64
}

// ran returns what becomes of a packet, by the definition: all packets with the same TTL are handled before those with a lesser one.
func ran(l []api.Table, p api.Packet, router int) api.Trace {
	var t api.Trace
	level := []place{{router, p.Bits}}
	for ttl := p.TTL; len(level) > 0; ttl-- {
		var behind []place
		for _, a := range level {
			b, ok := find(l, a.router)
			if !ok {
				t.Losses = append(t.Losses, api.Loss{Router: a.router, Bits: a.bits})
				continue
			}
			q := p
			q.TTL = ttl
			behind = append(behind, passed(&t, b, q, a.bits)...)
		}
		level = behind
	}
	return t
}

// passed adds to a trace what a router with a table makes of these bits of a packet, and returns where the others have come.
func passed(t *api.Trace, b api.Table, p api.Packet, bits uint64) []place {
	var behind []place
	var lost uint64
	for k := range p.Length {
		if bits>>k%2 == 0 {
			continue
		}
		next := hop(b, p.Set*p.Length+k+1, p.Entropy%8)
		at := slices.IndexFunc(behind, func(other place) bool { return other.router == next })
		switch {
		case next == b.Router:
			p.Bits = 1 << k
			t.Deliveries = append(t.Deliveries, api.Delivery{Router: next, Packet: p})
		case next == 0 || p.TTL == 0:
			lost += 1 << k
		case at >= 0:
			behind[at].bits += 1 << k
		default:
			behind = append(behind, place{next, 1 << k})
		}
	}
	if lost > 0 {
		t.Losses = append(t.Losses, api.Loss{Router: b.Router, Bits: lost})
	}
	for _, a := range behind {
		t.Crossings = append(t.Crossings, api.Crossing{From: b.Router, To: a.router, Bits: a.bits})
	}
	return behind
}

// way returns the path from a router to an identifier in valid tables, by the definition: more steps than there are tables come to a router again.
func way(l []api.Table, from, id, plane int) ([]int, api.Errno) {
	path := []int{from}
	for range len(l) + 1 {
		at := path[len(path)-1]
		b, ok := find(l, at)
		if !ok {
			return nil, api.ErrUnknown
		}
		switch next := hop(b, id, plane); next {
		case 0:
			return nil, api.ErrNone
		case at:
			return path[1:], api.OK
		default:
			path = append(path, next)
		}
	}
	return nil, api.ErrLoop
}

// sameTraces reports whether two lists of traces are equal.
func sameTraces(a, b []api.Trace) bool {
	return slices.EqualFunc(a, b, func(x, y api.Trace) bool {
		return slices.Equal(x.Deliveries, y.Deliveries) && slices.Equal(x.Crossings, y.Crossings) && slices.Equal(x.Losses, y.Losses)
	})
}

// wrongLists returns lists of tables that are not valid together, for all reasons, all of which have a table of the router 50 with the identifier 1.
func wrongLists(length int) [][]api.Table {
	spoilers := []func(l []api.Table){
		func(l []api.Table) { l[0].Router = 0 },
		func(l []api.Table) { l[0].Router = 50 },
		func(l []api.Table) { l[2].Router = 50 },
		func(l []api.Table) { l[0], l[1] = l[1], l[0] },
		func(l []api.Table) { l[0].Subdomain = 2 },
		func(l []api.Table) { l[2].Length = 72 - length },
		func(l []api.Table) { l[0].Length, l[0].Rows = 0, nil },
		func(l []api.Table) { l[1].Rows[0].ID = 0 },
		func(l []api.Table) { l[2].Rows[1].ID = 257 },
		func(l []api.Table) { l[0].Rows[1].Next = []int{100} },
		func(l []api.Table) { l[1].Rows[0].ID = 3 },
		func(l []api.Table) { l[0].Rows[0].Next = []int{3, 2} },
		func(l []api.Table) { l[2].Rows[0].Next = []int{60, 61} },
	}
	var l [][]api.Table
	for _, spoil := range spoilers {
		one := []api.Table{of(40, length, row(1, 50), row(2, 41)), of(50, length, row(1, 50), row(2, 40)), of(60, length, row(1, 50), row(3, 60))}
		spoil(one)
		l = append(l, one)
	}
	var many []api.Table
	for router := 50; router < 75; router++ {
		many = append(many, of(router, length, row(1, 50)))
	}
	return append(l, many)
}

// tree returns a plan with the length 8, and tables for it: from 1, the identifier 1 is at 4 over 2, 8 at 5 over 2 or 3, 9 at 6 over 3 and 5, 10 at 1 itself. To 20 leads a circle, to 30 a router without a table, to 40 nothing.
func tree() (api.Plan, []api.Table) {
	p := plan(8, 4, 1, 5, 8, 6, 9, 1, 10, 7, 20, 9, 30, 8, 40)
	return p, []api.Table{
		of(1, 8, row(1, 2), row(8, 2, 3), row(9, 3), row(10, 1), row(20, 2), row(30, 9), row(40)),
		of(2, 8, row(1, 4), row(8, 5), row(20, 3)),
		of(3, 8, row(8, 5), row(9, 5), row(20, 2)),
		of(4, 8, row(1, 4)), of(5, 8, row(8, 5), row(9, 6)), of(6, 8, row(9, 6)),
	}
}

// P17.2, P17.3, P17.4: known packets in all planes, and what they need.
func TestSendKnown(t *testing.T) {
	p, l := tree()
	q := api.Packet{Mode: api.ModeProbe, TTL: 9, Ingress: 10, Proto: 2, Payload: "stream"}
	for entropy := range 8 {
		q.Entropy = entropy
		with := func(set, ttl int, bits uint64) api.Packet {
			one := q
			one.Subdomain, one.Length, one.Set, one.TTL, one.Bits = 3, 8, set, ttl, bits
			return one
		}
		first := []api.Crossing{{From: 1, To: 2, Bits: 1<<0 | 1<<7}, {From: 2, To: 4, Bits: 1}, {From: 2, To: 5, Bits: 1 << 7}}
		if entropy%2 == 1 {
			first = []api.Crossing{{From: 1, To: 2, Bits: 1}, {From: 1, To: 3, Bits: 1 << 7}, {From: 2, To: 4, Bits: 1}, {From: 3, To: 5, Bits: 1 << 7}}
		}
		want := []api.Trace{
			{Deliveries: []api.Delivery{{Router: 4, Packet: with(0, 7, 1)}, {Router: 5, Packet: with(0, 7, 1<<7)}}, Crossings: first},
			{
				Deliveries: []api.Delivery{{Router: 1, Packet: with(1, 9, 2)}, {Router: 6, Packet: with(1, 6, 1)}},
				Crossings:  []api.Crossing{{From: 1, To: 3, Bits: 1}, {From: 3, To: 5, Bits: 1}, {From: 5, To: 6, Bits: 1}},
			},
			{Crossings: []api.Crossing{{From: 1, To: 9, Bits: 1 << 5}}, Losses: []api.Loss{{Router: 9, Bits: 1 << 5}}},
			{Losses: []api.Loss{{Router: 1, Bits: 1 << 7}}},
		}
		ids := []int{1, 8, 9, 10, 30, 40}
		got, e := ingress.Send(l, p, 1, ids, q)
		if e != api.OK || !sameTraces(got, want) {
			t.Errorf("the traces are\n%v, %d, not\n%v", got, e, want)
		}
		packets, _ := ingress.Packets(p, ids, q)
		if reached, e := ingress.Reached(p, packets, got); e != api.OK || !slices.Equal(reached, []int{1, 8, 9, 10}) {
			t.Errorf("%v are reached, %d", reached, e)
		}
		if n := ingress.Crossings(got); n != len(first)+4 {
			t.Errorf("there are %d crossings", n)
		}
		if n, e := ingress.Unicast(l, 1, []int{1, 8, 9, 10}, entropy); e != api.OK || n != 7 {
			t.Errorf("single packets would need %d, %d", n, e)
		}
	}
}

// P17.2: packets for some of the identifiers, from all routers, through the tables of domains and through tables that know nothing of each other, against the definition.
func TestSend(t *testing.T) {
	next := random(4)
	most, losses := 0, 0
	for i, d := range append(strangers(), domains()...) {
		for _, b := range d.tables {
			ids, q := chosen(next, d.plan, 1+next(3)), blank()
			q.Mode, q.TTL, q.Entropy = api.ModeIndexed+2*next(2), next(64), next(1024)
			var want []api.Trace
			for _, one := range packetsOf(d.plan, ids, q) {
				want = append(want, ran(d.tables, one, b.Router))
				losses += len(want[len(want)-1].Losses)
			}
			got, e := ingress.Send(d.tables, d.plan, b.Router, ids, q)
			if e != api.OK || !sameTraces(got, want) {
				t.Fatalf("%d: for %v from %d the traces are\n%v, %d, not\n%v", i, ids, b.Router, got, e, want)
			}
			most = max(most, len(got))
		}
	}
	if most < 8 || losses < 1000 {
		t.Errorf("there are at most %d packets, and %d losses", most, losses)
	}
}

// refusedSend checks that Send returns this error, and nothing else.
func refusedSend(t *testing.T, l []api.Table, p api.Plan, router int, ids []int, q api.Packet, want api.Errno) {
	t.Helper()
	if got, e := ingress.Send(l, p, router, ids, q); e != want || len(got) > 0 {
		t.Errorf("with the tables %v and the plan %v, the traces of %v from %d for %v are %v, %d, not the error %d", l, p, q, router, ids, got, e, want)
	}
}

// ground returns a plan and valid tables for it, in which the router 50 has a table, and 41 has none.
func ground(length int) (api.Plan, []api.Table) {
	return plan(length, 50, 1, 41, 2, 40, 70), []api.Table{of(40, length, row(1, 50), row(2, 41), row(70, 40)), of(50, length, row(1, 50), row(2, 40), row(70, 40))}
}

// engineered returns a packet that no table forwards.
func engineered() api.Packet {
	q := blank()
	q.Mode = api.ModeEngineered
	return q
}

// P17.2: each error alone.
func TestSendErrors(t *testing.T) {
	for _, length := range lengths {
		p, l := ground(length)
		for _, ids := range [][]int{{1}, {2}, {1, 70}} {
			if got, e := ingress.Send(l, p, 50, ids, blank()); e != api.OK || len(got) != len(ids) {
				t.Fatalf("the traces are %v, %d", got, e)
			}
			for _, q := range spoiled(blank()) {
				refusedSend(t, l, p, 50, ids, q, api.ErrInvalid)
			}
			for _, wrong := range wrongLists(length) {
				refusedSend(t, wrong, p, 50, ids, blank(), api.ErrInvalid)
			}
			for _, router := range append(far, 0, 1, 39, 41, 49, 51, 99, 100) {
				refusedSend(t, l, p, router, ids, blank(), api.ErrUnknown)
				refusedSend(t, nil, p, router, ids, blank(), api.ErrUnknown)
			}
			refusedSend(t, l, p, 50, ids, engineered(), api.ErrState)
			for subdomain := range 8 {
				other := p
				other.Subdomain = subdomain
				if subdomain != 3 {
					refusedSend(t, l, other, 50, ids, blank(), api.ErrConflict)
				}
			}
			for _, n := range lengths {
				other := p
				other.Length = n
				if n != length {
					refusedSend(t, l, other, 50, ids, blank(), api.ErrConflict)
				}
			}
			refusedSend(t, []api.Table{{Router: 50, Subdomain: 3}}, p, 50, ids, blank(), api.ErrConflict)
		}
		for _, wrong := range wrongPlans() {
			refusedSend(t, l, wrong, 50, []int{1}, blank(), api.ErrInvalid)
			refusedSend(t, l, wrong, 50, nil, blank(), api.ErrInvalid)
		}
		refusedSend(t, l, p, 50, []int{2, 1}, blank(), api.ErrOrder)
		refusedSend(t, l, p, 50, []int{1, 1}, blank(), api.ErrOrder)
		refusedSend(t, l, p, 50, []int{3}, blank(), api.ErrUnknown)
		refusedSend(t, l, p, 50, []int{1, 2, 71}, blank(), api.ErrUnknown)
	}
}

// P17.2: the order of the errors. Each case has mistakes of those that follow.
func TestSendOrderOfErrors(t *testing.T) {
	for _, length := range lengths {
		p, l := ground(length)
		ids := []int{1, 2, 70}
		other := p
		other.Subdomain = 4
		refusedSend(t, l, other, 50, ids, engineered(), api.ErrState)
		refusedSend(t, l, other, 41, ids, engineered(), api.ErrUnknown)
		refusedSend(t, nil, other, 50, ids, engineered(), api.ErrUnknown)
		for _, wrong := range wrongLists(length) {
			refusedSend(t, wrong, other, 42, ids, engineered(), api.ErrInvalid)
			refusedSend(t, wrong, other, 50, []int{1, 3}, engineered(), api.ErrUnknown)
			refusedSend(t, wrong, other, 42, []int{1, 3}, blank(), api.ErrUnknown)
			refusedSend(t, wrong, other, 42, []int{4, 3}, engineered(), api.ErrOrder)
		}
		for _, q := range append(spoiled(blank()), spoiled(engineered())...) {
			refusedSend(t, l, p, 41, ids, q, api.ErrInvalid)
			refusedSend(t, nil, other, 41, ids, q, api.ErrInvalid)
			refusedSend(t, l, p, 41, []int{3}, q, api.ErrUnknown)
			refusedSend(t, l, p, 50, []int{2, 1}, q, api.ErrOrder)
		}
		for _, wrong := range wrongPlans() {
			refusedSend(t, nil, wrong, 0, []int{2, 1}, engineered(), api.ErrInvalid)
		}
	}
}

// P17.2: without identifiers there are no packets, and so nothing that trace.Run would refuse.
func TestSendNothing(t *testing.T) {
	p, l := ground(8)
	other := p
	other.Subdomain = 4
	for _, ids := range [][]int{nil, {}} {
		for _, q := range append(spoiled(blank()), blank(), engineered()) {
			for _, tables := range append(wrongLists(8), l, nil) {
				for _, router := range []int{0, 41, 50} {
					for _, one := range []api.Plan{p, other, {}, plan(64)} {
						if got, e := ingress.Send(tables, one, router, ids, q); e != api.OK || len(got) > 0 {
							t.Errorf("the traces of nothing are %v, %d", got, e)
						}
					}
				}
			}
		}
	}
}

// P17.4: known sums, also of identifiers that are not ascending or occur several times, and the first error.
func TestUnicastKnown(t *testing.T) {
	_, l := tree()
	for i, c := range []struct {
		router, plane int
		ids           []int
		want          int
		code          api.Errno
	}{
		{router: 1, ids: []int{1}, want: 2}, {router: 1, ids: []int{1, 8, 9, 10}, want: 7}, {router: 1, ids: []int{10}}, {router: 1, plane: 7, ids: []int{9, 8, 1}, want: 7},
		{router: 1, ids: []int{9, 9, 1, 9}, want: 11}, {router: 2, ids: []int{1, 8}, want: 2}, {router: 6, ids: []int{9, 9}}, {router: 3, ids: []int{9, 8}, want: 3},
		{router: 1, ids: []int{20}, code: api.ErrLoop}, {router: 1, ids: []int{30}, code: api.ErrUnknown}, {router: 1, ids: []int{40}, code: api.ErrNone},
		{router: 1, ids: []int{1, 20, 30, 40}, code: api.ErrLoop}, {router: 1, ids: []int{40, 30, 20}, code: api.ErrNone}, {router: 1, ids: []int{8, 30, 1, 20}, code: api.ErrUnknown},
		{router: 1, ids: []int{1, 8, 9, 0}, code: api.ErrNone}, {router: 1, ids: []int{257}, code: api.ErrNone}, {router: 1, ids: []int{1, -1}, code: api.ErrNone},
		{router: 9, ids: []int{1}, code: api.ErrUnknown}, {router: 0, ids: []int{1}, code: api.ErrUnknown}, {router: 100, ids: []int{1, 20}, code: api.ErrUnknown},
		{router: 1, plane: 8, ids: []int{1}, code: api.ErrRange}, {router: 1, plane: -1, ids: []int{1}, code: api.ErrRange}, {router: 9, plane: 8, ids: []int{0}, code: api.ErrRange},
		{router: 9, plane: 9}, {router: 1, ids: []int{}},
	} {
		if got, e := ingress.Unicast(l, c.router, c.ids, c.plane); got != c.want || e != c.code {
			t.Errorf("%d: single packets need %d, %d, not %d, %d", i, got, e, c.want, c.code)
		}
	}
}

// P17.4: each error of trace.Path, and none without identifiers.
func TestUnicastErrors(t *testing.T) {
	_, l := ground(16)
	check := func(l []api.Table, router int, ids []int, plane int, want api.Errno) {
		t.Helper()
		if got, e := ingress.Unicast(l, router, ids, plane); e != want || got != 0 {
			t.Errorf("with the tables %v, single packets from %d for %v in the plane %d need %d, %d, not the error %d", l, router, ids, plane, got, e, want)
		}
		if got, e := ingress.Unicast(l, router, nil, plane); e != api.OK || got != 0 {
			t.Errorf("no packets need %d, %d", got, e)
		}
	}
	for _, n := range append(far, 0, 3, 257) {
		check(l, 40, []int{1, n}, 0, api.ErrNone)
	}
	for _, n := range append(far, 0, 41, 49, 99, 100) {
		check(l, n, []int{1, 0}, 7, api.ErrUnknown)
		check(nil, n, []int{1}, 0, api.ErrUnknown)
	}
	for _, n := range append(far, 8, 9) {
		check(l, 40, []int{1}, n, api.ErrRange)
		check(nil, 0, []int{2, 0}, n, api.ErrRange)
	}
	for _, length := range lengths {
		for _, wrong := range wrongLists(length) {
			check(wrong, 50, []int{1, 2}, 0, api.ErrInvalid)
			check(wrong, 0, []int{0}, 8, api.ErrInvalid)
		}
	}
}

// P17.4: any identifiers in any order, from all routers in all planes, against the definition.
func TestUnicast(t *testing.T) {
	next := random(5)
	codes := map[api.Errno]int{}
	for i, d := range append(strangers(), domains()...) {
		for _, b := range d.tables {
			for plane := range 8 {
				var ids []int
				for range next(6) {
					if len(d.plan.Edges) > 0 && next(30) > 0 {
						ids = append(ids, d.plan.Edges[next(len(d.plan.Edges))].ID)
						continue
					}
					ids = append(ids, next(260))
				}
				want, code := 0, api.OK
				for _, id := range ids {
					path, e := way(d.tables, b.Router, id, plane)
					if e != api.OK {
						want, code = 0, e
						break
					}
					want += len(path)
				}
				got, e := ingress.Unicast(d.tables, b.Router, ids, plane)
				if got != want || e != code {
					t.Fatalf("%d: single packets from %d for %v in the plane %d need %d, %d, not %d, %d", i, b.Router, ids, plane, got, e, want, code)
				}
				codes[e]++
			}
		}
	}
	for _, e := range []api.Errno{api.OK, api.ErrUnknown, api.ErrNone, api.ErrLoop} {
		if codes[e] < 100 {
			t.Errorf("there are only %d sums with the error %d", codes[e], e)
		}
	}
}

// reachable returns those of the identifiers whose edge routers are capable and can be reached.
func reachable(d domain, from int, ids []int) []int {
	var l []int
	for _, edge := range d.plan.Edges {
		_, ok := shortest.Cost(d.topology, from, edge.Router)
		if ok && slices.Contains(ids, edge.ID) && topology.Capable(d.topology, edge.Router) {
			l = append(l, edge.ID)
		}
	}
	return l
}

// P17.5: with the tables of a topology, exactly those identifiers are reached that can be, each once, and never with more crossings than single packets need.
func TestDomains(t *testing.T) {
	next := random(6)
	lacking, saved := 0, 0
	for i, d := range domains() {
		for _, b := range d.tables {
			for range 3 {
				ids, q := chosen(next, d.plan, 1+next(3)), blank()
				q.TTL, q.Entropy = len(d.topology.Routers)+next(64-len(d.topology.Routers)), next(1024)
				can := reachable(d, b.Router, ids)
				checkReached(t, d, b.Router, ids, can, q)
				lacking += len(ids) - len(can)
				saved += checkCrossings(t, d, b.Router, can, q)
			}
		}
		if t.Failed() {
			t.Fatalf("in the domain %d", i)
		}
	}
	if lacking < 500 || saved < 500 {
		t.Errorf("only %d identifiers cannot be reached, only %d crossings are saved", lacking, saved)
	}
}

// checkReached checks that of the identifiers exactly those are reached that can be.
func checkReached(t *testing.T, d domain, from int, ids, can []int, q api.Packet) {
	t.Helper()
	packets, e := ingress.Packets(d.plan, ids, q)
	traces, code := ingress.Send(d.tables, d.plan, from, ids, q)
	if e != api.OK || code != api.OK {
		t.Errorf("the packets for %v have the errors %d, %d", ids, e, code)
	}
	got, e := ingress.Reached(d.plan, packets, traces)
	if e != api.OK || !slices.Equal(got, can) {
		t.Errorf("from %d, of %v there are reached %v, %d, not %v", from, ids, got, e, can)
	}
	missing, foreign, repeated := ingress.Missing(ids, got)
	rest := slices.DeleteFunc(slices.Clone(ids), func(id int) bool { return slices.Contains(can, id) })
	if !slices.Equal(missing, rest) || len(foreign) > 0 || len(repeated) > 0 {
		t.Errorf("from %d, of %v are missing %v, not %v, foreign %v, repeated %v", from, ids, missing, rest, foreign, repeated)
	}
}

// checkCrossings checks that packets for identifiers that can be reached cross no more links than single ones, and returns how many fewer.
func checkCrossings(t *testing.T, d domain, from int, ids []int, q api.Packet) int {
	t.Helper()
	traces, e := ingress.Send(d.tables, d.plan, from, ids, q)
	single, code := ingress.Unicast(d.tables, from, ids, q.Entropy%8)
	if e != api.OK || code != api.OK || ingress.Crossings(traces) > single {
		t.Errorf("from %d to %v there are %d crossings, %d, and %d of single packets, %d", from, ids, ingress.Crossings(traces), e, single, code)
	}
	return single - ingress.Crossings(traces)
}

// P17.5: the greatest plans: 24 edge routers in a chain, in one set or in as many sets as possible.
func TestChain(t *testing.T) {
	var n api.Topology
	for router := 1; router <= 24; router++ {
		n.Routers = append(n.Routers, api.Router{ID: router, Capable: true})
		if router > 1 {
			n.Links = append(n.Links, api.Link{A: router - 1, B: router, CostA: 1, CostB: 1})
		}
	}
	for apart, crossings := range map[int]int{1: 23, 8: 23 * 12, 10: 23 * 12} {
		p, q := plan(8), blank()
		for router := 1; router <= 24; router++ {
			p.Edges = append(p.Edges, api.Edge{Router: router, ID: 1 + (router-1)*apart})
		}
		if apart == 1 {
			p.Length = 32
		}
		l, _ := table.All(n, p)
		d := domain{n, p, l}
		ids := chosen(random(7), p, 1)
		checkReached(t, d, 1, ids, ids, q)
		if saved := checkCrossings(t, d, 1, ids, q); saved != 23*12-crossings {
			t.Errorf("with identifiers %d apart, %d crossings are saved", apart, saved)
		}
	}
}

// answers returns what all functions answer, as a text.
func answers(d domain, router int, ids []int, q api.Packet) string {
	packets, e := ingress.Packets(d.plan, ids, q)
	traces, code := ingress.Send(d.tables, d.plan, router, ids, q)
	reached, wrong := ingress.Reached(d.plan, packets, traces)
	single, no := ingress.Unicast(d.tables, router, ids, q.Entropy%8)
	return fmt.Sprintln(packets, e, traces, code, reached, wrong, ingress.Crossings(traces), single, no)
}

// scribble writes over all that a trace has, also behind its ends.
func scribble(x api.Trace) {
	for k := range x.Deliveries[:cap(x.Deliveries)] {
		x.Deliveries[:cap(x.Deliveries)][k] = at(-1, math.MaxUint64)
	}
	for k := range x.Crossings[:cap(x.Crossings)] {
		x.Crossings[:cap(x.Crossings)][k] = api.Crossing{From: -1}
	}
	for k := range x.Losses[:cap(x.Losses)] {
		x.Losses[:cap(x.Losses)][k] = api.Loss{Router: -1}
	}
}

// R5, R6: all functions leave their arguments as they are, and answer the same again, in memory of their own.
func TestArgumentsStay(t *testing.T) {
	next := random(8)
	for i, d := range append(strangers(), domains()...) {
		for _, b := range d.tables {
			ids, q := chosen(next, d.plan, 1), blank()
			keptIDs, keptTables, keptEdges := slices.Clone(ids), copied(d.tables), slices.Clone(d.plan.Edges)
			first := answers(d, b.Router, ids, q)
			packets, _ := ingress.Packets(d.plan, ids, q)
			traces, _ := ingress.Send(d.tables, d.plan, b.Router, ids, q)
			before := fmt.Sprint(packets, traces)
			reached, _ := ingress.Reached(d.plan, packets, traces)
			for k := range reached[:cap(reached)] {
				reached[:cap(reached)][k] = -1
			}
			if now := fmt.Sprint(packets, traces); now != before {
				t.Errorf("%d: Reached changes its arguments, from %s to %s", i, before, now)
			}
			for k, x := range traces {
				rest := fmt.Sprint(traces[k+1:])
				scribble(x)
				if fmt.Sprint(traces[k+1:]) != rest {
					t.Errorf("%d: traces share memory", i)
				}
			}
			for k := range packets[:cap(packets)] {
				packets[:cap(packets)][k] = api.Packet{}
			}
			if again := answers(d, b.Router, ids, q); again != first {
				t.Fatalf("%d: the answers are first\n%s, then\n%s", i, first, again)
			}
			same := slices.EqualFunc(d.tables, keptTables, func(a, b api.Table) bool { return fmt.Sprint(a) == fmt.Sprint(b) })
			if !same || !slices.Equal(ids, keptIDs) || !slices.Equal(d.plan.Edges, keptEdges) {
				t.Fatalf("%d: the arguments have changed", i)
			}
		}
	}
}
