package ingress_test

import (
	"math"
	"slices"
	"strings"
	"testing"

	"bitcast/api"
	"bitcast/ingress"
)

// far has numbers that are out of every range, some of which seem to be in one if only their lowest bits are looked at, or if they are multiplied.
var far = []int{math.MinInt, math.MinInt + 1, -1 << 61, -1 << 32, -1<<32 + 2, -257, -8, -2, -1, 1024, 1 << 32, 1<<32 + 1, 1<<32 + 2, 1 << 58, 1 << 61, 1<<61 + 1, 1 << 62, math.MaxInt - 1, math.MaxInt}

// lengths has the lengths of bit strings.
var lengths = []int{8, 16, 32, 64}

// random returns a fixed sequence of numbers below n, so that each run of the tests is the same.
func random(seed uint64) func(n int) int {
	return func(n int) int {
		seed = seed*6364136223846793005 + 1442695040888963407
		return int(seed >> 33 % uint64(n))
	}
}

// some returns n different numbers from 1 to greatest, ascending.
func some(next func(int) int, n, greatest int) []int {
	var l []int
	for len(l) < n {
		if r := 1 + next(greatest); !slices.Contains(l, r) {
			l = append(l, r)
		}
	}
	slices.Sort(l)
	return l
}

// plan returns a plan of the subdomain 3 with these edges: an identifier after the router to which it belongs.
func plan(length int, numbers ...int) api.Plan {
	p := api.Plan{Subdomain: 3, Length: length}
	for i := 0; i < len(numbers); i += 2 {
		p.Edges = append(p.Edges, api.Edge{Router: numbers[i], ID: numbers[i+1]})
	}
	return p
}

// planOf returns a plan with these routers in any order, and identifiers from low on that are at most so many apart.
func planOf(next func(int) int, length int, routers []int, low, apart int) api.Plan {
	p := api.Plan{Subdomain: next(8), Length: length}
	routers = slices.Clone(routers)
	for id := low; len(routers) > 0 && id <= 256; id += 1 + next(apart) {
		k := next(len(routers))
		p.Edges = append(p.Edges, api.Edge{Router: routers[k], ID: id})
		routers = slices.Delete(routers, k, k+1)
	}
	return p
}

// sparse returns a plan with as many edges as there may be, whose identifiers lie in as many sets as possible, and one of which is the greatest one.
func sparse(next func(int) int, length int) api.Plan {
	p := api.Plan{Subdomain: next(8), Length: length}
	for i, router := range some(next, 24, 99) {
		p.Edges = append(p.Edges, api.Edge{Router: router, ID: 256 - 8*(23-i) - next(8)*min(1, 23-i)})
	}
	return p
}

// plans returns valid plans of many kinds: without edges, with few and many sets, with each identifier.
func plans() []api.Plan {
	next := random(17)
	l := []api.Plan{{}, {Subdomain: 7}, plan(8), plan(64), plan(8, 3, 1), plan(64, 99, 256), plan(8, 5, 1, 4, 8, 3, 9, 2, 64, 1, 65, 99, 256)}
	for i := range 200 {
		l = append(l, planOf(next, lengths[i%4], some(next, 1+next(24), 99), 1+next(30), 1+next(10)))
	}
	for _, length := range lengths {
		for low := 1; low <= 256; low += 24 {
			l = append(l, planOf(next, length, some(next, 24, 99), low, 1))
		}
		l = append(l, sparse(next, length))
	}
	return l
}

// wrongPlans returns plans that are not valid, all of which have the edge 1 with the identifier 1, and no other identifier but 2 and 3.
func wrongPlans() []api.Plan {
	l := []api.Plan{plan(0, 1, 1), plan(8, 1, 1, 1, 2), plan(8, 1, 1, 2, 3, 3, 2), plan(8, 1, 1, 2, 1), plan(8, 2, 2, 1, 1), plan(8, 1, 1, 2, 2, 1, 3)}
	for _, n := range append([]int{0, 100}, far...) {
		l = append(l, plan(8, 1, 1, n, 2), plan(8, 1, 1, 2, 2, n, 3))
	}
	for _, n := range append([]int{0, 257}, far...) {
		l = append(l, plan(8, 1, 1, 2, n), plan(8, 2, n, 1, 1))
	}
	for _, n := range append([]int{1, 7, 9, 24, 63, 65, 128}, far...) {
		l = append(l, plan(n, 1, 1), plan(n, 1, 1, 2, 2))
	}
	for _, n := range append([]int{8}, far...) {
		p := plan(8, 1, 1, 2, 2)
		p.Subdomain = n
		l = append(l, p)
	}
	many := plan(8)
	for n := 1; n <= 25; n++ {
		many.Edges = append(many.Edges, api.Edge{Router: n, ID: n})
	}
	return append(l, many)
}

// chosen returns some of the identifiers of a plan: each with one chance in thin.
func chosen(next func(int) int, p api.Plan, thin int) []int {
	var ids []int
	for _, e := range p.Edges {
		if next(thin) == 0 {
			ids = append(ids, e.ID)
		}
	}
	return ids
}

// blank returns a packet that is valid but for what a plan gives it: the subdomain, the set, the length and the bits are those of no plan.
func blank() api.Packet {
	return api.Packet{Mode: api.ModeIndexed, Subdomain: -1, Set: 99, Length: 5, TTL: 30, Entropy: 11, Ingress: 7, Proto: 5, Bits: math.MaxUint64, Payload: "hi"}
}

// blanks returns packets that are valid but for what a plan gives them, with the least and the greatest numbers.
func blanks() []api.Packet {
	l := []api.Packet{blank(), {Mode: api.ModeIndexed}, {Mode: api.ModeEngineered}, {Mode: api.ModeProbe}}
	for _, change := range []func(q *api.Packet){
		func(q *api.Packet) { q.TTL = 0 }, func(q *api.Packet) { q.TTL = 63 }, func(q *api.Packet) { q.Entropy = 0 }, func(q *api.Packet) { q.Entropy = 1023 },
		func(q *api.Packet) { q.Ingress = 0 }, func(q *api.Packet) { q.Ingress = 256 }, func(q *api.Packet) { q.Proto = 0 }, func(q *api.Packet) { q.Proto = 7 },
		func(q *api.Packet) { q.Payload = "" }, func(q *api.Packet) { q.Payload = strings.Repeat("\xff", 64) }, func(q *api.Packet) { q.Bits = 0 },
		func(q *api.Packet) { q.Mode, q.Subdomain, q.Set, q.Length = 3, 7, 31, 64 },
	} {
		q := blank()
		change(&q)
		l = append(l, q)
	}
	for _, n := range far {
		q := blank()
		q.Subdomain, q.Set, q.Length = n, n, n
		l = append(l, q)
	}
	return l
}

// spoiled returns copies of a packet that are not valid, whatever a plan gives them.
func spoiled(q api.Packet) []api.Packet {
	var l []api.Packet
	add := func(spoil func(p *api.Packet)) {
		p := q
		spoil(&p)
		l = append(l, p)
	}
	add(func(p *api.Packet) { *p = api.Packet{} })
	add(func(p *api.Packet) { p.Mode = 0 })
	add(func(p *api.Packet) { p.Mode = 4 })
	add(func(p *api.Packet) { p.TTL = 64 })
	add(func(p *api.Packet) { p.Ingress = 257 })
	add(func(p *api.Packet) { p.Proto = 8 })
	add(func(p *api.Packet) { p.Payload = strings.Repeat("x", 65) })
	for _, n := range far {
		add(func(p *api.Packet) { p.Mode = n })
		add(func(p *api.Packet) { p.TTL = n })
		add(func(p *api.Packet) { p.Entropy = n })
		add(func(p *api.Packet) { p.Ingress = n })
		add(func(p *api.Packet) { p.Proto = n })
	}
	return l
}

// packetsOf returns what Packets returns for a plan, identifiers and a packet that are valid, by the definition.
func packetsOf(p api.Plan, ids []int, q api.Packet) []api.Packet {
	var l []api.Packet
	q.Subdomain, q.Length = p.Subdomain, p.Length
	for set := range 32 {
		q.Set, q.Bits = set, 0
		for bit := range p.Length {
			if slices.Contains(ids, set*p.Length+bit+1) {
				q.Bits += 1 << bit
			}
		}
		if q.Bits > 0 {
			l = append(l, q)
		}
	}
	return l
}

// P17.1: the chapter's example.
func TestExample(t *testing.T) {
	q := api.Packet{Mode: api.ModeIndexed, TTL: 5, Entropy: 3, Payload: "hi"}
	first, second := q, q
	first.Subdomain, first.Length, first.Set, first.Bits = 3, 8, 0, 1<<0|1<<7
	second.Subdomain, second.Length, second.Set, second.Bits = 3, 8, 1, 1<<0
	got, e := ingress.Packets(plan(8, 4, 1, 3, 2, 7, 8, 5, 9), []int{1, 8, 9}, q)
	if e != api.OK || !slices.Equal(got, []api.Packet{first, second}) {
		t.Errorf("the packets are %v, %d", got, e)
	}
}

// P17.1: known packets of all lengths, up to the last set.
func TestPacketsKnown(t *testing.T) {
	numbers := []int{5, 1, 4, 8, 3, 9, 2, 64, 1, 65, 99, 256}
	for i, c := range []struct {
		length int
		ids    []int
		want   []api.SetBits
	}{
		{8, []int{1, 8, 9}, []api.SetBits{{Set: 0, Bits: 129}, {Set: 1, Bits: 1}}},
		{8, []int{64, 65, 256}, []api.SetBits{{Set: 7, Bits: 128}, {Set: 8, Bits: 1}, {Set: 31, Bits: 128}}},
		{16, []int{1, 8, 9, 256}, []api.SetBits{{Set: 0, Bits: 385}, {Set: 15, Bits: 1 << 15}}},
		{32, []int{9, 64, 65}, []api.SetBits{{Set: 0, Bits: 256}, {Set: 1, Bits: 1 << 31}, {Set: 2, Bits: 1}}},
		{64, []int{1, 64, 65, 256}, []api.SetBits{{Set: 0, Bits: 1<<63 + 1}, {Set: 1, Bits: 1}, {Set: 3, Bits: 1 << 63}}},
		{8, []int{9}, []api.SetBits{{Set: 1, Bits: 1}}},
		{8, nil, nil},
		{64, []int{}, nil},
	} {
		var want []api.Packet
		for _, s := range c.want {
			q := blank()
			q.Subdomain, q.Length, q.Set, q.Bits = 3, c.length, s.Set, s.Bits
			want = append(want, q)
		}
		if got, e := ingress.Packets(plan(c.length, numbers...), c.ids, blank()); e != api.OK || !slices.Equal(got, want) {
			t.Errorf("%d: the packets for %v are %v, %d, not %v", i, c.ids, got, e, want)
		}
	}
}

// P17.1, P17.5: packets for some of the identifiers of many plans, against the definition; no two have the same set.
func TestPackets(t *testing.T) {
	next := random(1)
	most := 0
	for i, p := range plans() {
		for thin := 1; thin <= 4; thin++ {
			ids := chosen(next, p, thin)
			for _, q := range blanks() {
				want := packetsOf(p, ids, q)
				got, e := ingress.Packets(p, ids, q)
				if e != api.OK || !slices.Equal(got, want) {
					t.Fatalf("%d: the packets for %v are %v, %d, not %v", i, ids, got, e, want)
				}
				sets := map[int]bool{}
				for _, one := range got {
					sets[one.Set] = true
				}
				if len(sets) != len(got) {
					t.Errorf("%d: two packets have the same set: %v", i, got)
				}
				most = max(most, len(got))
			}
		}
	}
	if most != 24 {
		t.Errorf("there are never more than %d packets", most)
	}
}

// refusedPackets checks that Packets returns this error, and nothing else.
func refusedPackets(t *testing.T, p api.Plan, ids []int, q api.Packet, want api.Errno) {
	t.Helper()
	if got, e := ingress.Packets(p, ids, q); e != want || len(got) > 0 {
		t.Errorf("the packets of %v for %v and %v are %v, %d, not the error %d", q, p, ids, got, e, want)
	}
}

// P17.1: each error alone.
func TestPacketsErrors(t *testing.T) {
	for _, p := range wrongPlans() {
		for _, ids := range [][]int{nil, {}, {1}, {1, 2}} {
			refusedPackets(t, p, ids, blank(), api.ErrInvalid)
		}
	}
	for _, length := range lengths {
		p := plan(length, 5, 1, 4, 8, 3, 9)
		for _, ids := range [][]int{{8, 1}, {1, 1}, {1, 8, 8}, {9, 1, 8}, {1, 9, 8}, {9, 8, 1}} {
			refusedPackets(t, p, ids, blank(), api.ErrOrder)
		}
		for _, n := range append([]int{0, 2, 3, 5, 7, 10, 17, 255, 256, 257}, far...) {
			ids := []int{1, 8, 9, n}
			slices.Sort(ids)
			refusedPackets(t, p, ids, blank(), api.ErrUnknown)
			refusedPackets(t, p, []int{n}, blank(), api.ErrUnknown)
			refusedPackets(t, api.Plan{}, []int{n}, blank(), api.ErrUnknown)
		}
		for _, q := range spoiled(blank()) {
			refusedPackets(t, p, []int{1}, q, api.ErrInvalid)
			refusedPackets(t, p, []int{1, 8, 9}, q, api.ErrInvalid)
		}
	}
}

// P17.1: the order of the errors. Each case has the mistakes of those that follow.
func TestPacketsOrderOfErrors(t *testing.T) {
	p := plan(8, 5, 1, 4, 8, 3, 9)
	for _, q := range append(spoiled(blank()), blank()) {
		for _, ids := range [][]int{{2}, {1, 2, 9}, {0, 1}, {1, 8, 9, 257}} {
			refusedPackets(t, p, ids, q, api.ErrUnknown)
		}
		for _, ids := range [][]int{{2, 1}, {2, 2}, {9, 1}, {0, -1}, {257, 256}} {
			refusedPackets(t, p, ids, q, api.ErrOrder)
		}
		for _, wrong := range wrongPlans() {
			for _, ids := range [][]int{nil, {1}, {7}, {2, 1}} {
				refusedPackets(t, wrong, ids, q, api.ErrInvalid)
			}
		}
	}
}

// P17.1: without identifiers there is no packet that would not be valid.
func TestPacketsOfNothing(t *testing.T) {
	for _, p := range plans() {
		for _, q := range append(spoiled(blank()), blank()) {
			for _, ids := range [][]int{nil, {}} {
				if got, e := ingress.Packets(p, ids, q); e != api.OK || len(got) > 0 {
					t.Errorf("the packets of %v for %v and no identifiers are %v, %d", q, p, got, e)
				}
			}
		}
	}
}

// P17.3: R4, a list that is nil and one that is empty.
func TestReachedOfNothing(t *testing.T) {
	for _, p := range plans() {
		for i, l := range [][]api.Packet{nil, {}} {
			for k, x := range [][]api.Trace{nil, {}} {
				if got, e := ingress.Reached(p, l, x); e != api.OK || len(got) > 0 {
					t.Errorf("%d, %d: of nothing in %v, %v is reached, %d", i, k, p, got, e)
				}
			}
		}
	}
}

// sent returns a valid packet of a set, with the bits 0 and 1.
func sent(set, length int) api.Packet {
	return api.Packet{Mode: api.ModeIndexed, Subdomain: 3, Set: set, Length: length, TTL: 9, Bits: 3}
}

// at returns a delivery of these bits at a router.
func at(router int, bits uint64) api.Delivery {
	return api.Delivery{Router: router, Packet: api.Packet{Bits: bits}}
}

// traced returns a trace with these deliveries.
func traced(l ...api.Delivery) api.Trace { return api.Trace{Deliveries: l} }

// P17.3: known packets and traces, also such as Send never returns.
func TestReachedKnown(t *testing.T) {
	p := plan(8, 5, 1, 4, 8, 3, 9, 2, 64, 1, 65, 99, 256)
	none := api.Trace{Crossings: []api.Crossing{{From: 1, To: 5, Bits: 1}}, Losses: []api.Loss{{Router: 5, Bits: 1}}}
	for i, c := range []struct {
		packets []api.Packet
		traces  []api.Trace
		want    []int
		code    api.Errno
	}{
		{packets: []api.Packet{sent(0, 8)}, traces: []api.Trace{{}}},
		{packets: []api.Packet{sent(0, 8), sent(1, 8)}, traces: []api.Trace{none, none}},
		{[]api.Packet{sent(0, 8)}, []api.Trace{traced(at(5, 1))}, []int{1}, api.OK},
		{[]api.Packet{sent(0, 8)}, []api.Trace{traced(at(4, 128), at(5, 1))}, []int{1, 8}, api.OK},
		{[]api.Packet{sent(1, 8), sent(0, 8)}, []api.Trace{traced(at(3, 1)), traced(at(4, 128), at(5, 1))}, []int{1, 8, 9}, api.OK},
		// As often as delivered: in one trace, and in several of one set.
		{[]api.Packet{sent(0, 8)}, []api.Trace{traced(at(5, 1), at(4, 128), at(5, 1))}, []int{1, 1, 8}, api.OK},
		{[]api.Packet{sent(0, 8), sent(0, 8), sent(1, 8)}, []api.Trace{traced(at(5, 1)), traced(at(5, 1)), traced(at(3, 1), at(3, 1), at(3, 1))}, []int{1, 1, 9, 9, 9}, api.OK},
		{[]api.Packet{sent(31, 8)}, []api.Trace{traced(at(99, 128))}, []int{256}, api.OK},
		{[]api.Packet{sent(7, 8), sent(8, 8)}, []api.Trace{traced(at(2, 128)), traced(at(1, 1))}, []int{64, 65}, api.OK},
		// The length is that of the packet, whatever the plan has.
		{[]api.Packet{sent(0, 64), sent(1, 64), sent(3, 64)}, []api.Trace{traced(at(2, 1<<63)), traced(at(1, 1)), traced(at(99, 1<<63))}, []int{64, 65, 256}, api.OK},
		{[]api.Packet{sent(0, 16), sent(4, 16), sent(2, 32)}, []api.Trace{traced(at(3, 256), at(4, 128)), traced(at(1, 1)), traced(at(1, 1))}, []int{8, 9, 65, 65}, api.OK},
		// A delivery without bits is one of no identifier, wherever it is.
		{packets: []api.Packet{sent(0, 8)}, traces: []api.Trace{traced(at(5, 0), at(0, 0), at(-7, 0))}},
		// Identifiers of no edge, bits behind the length, sets behind the last identifier, and other routers.
		{[]api.Packet{sent(0, 8)}, []api.Trace{traced(at(5, 2))}, nil, api.ErrUnknown},
		{[]api.Packet{sent(0, 8)}, []api.Trace{traced(at(3, 256))}, nil, api.ErrUnknown},
		{[]api.Packet{sent(0, 8)}, []api.Trace{traced(at(5, 1), at(2, 1<<63))}, nil, api.ErrUnknown},
		{[]api.Packet{sent(4, 64)}, []api.Trace{traced(at(5, 1))}, nil, api.ErrUnknown},
		{[]api.Packet{sent(31, 64)}, []api.Trace{traced(at(0, 1))}, nil, api.ErrUnknown},
		{[]api.Packet{sent(0, 8)}, []api.Trace{traced(at(4, 1))}, nil, api.ErrUnknown},
		{[]api.Packet{sent(0, 8)}, []api.Trace{traced(at(5, 1), at(5, 128))}, nil, api.ErrUnknown},
		{[]api.Packet{sent(0, 8)}, []api.Trace{traced(at(5, 129))}, nil, api.ErrUnknown},
		{[]api.Packet{sent(0, 8)}, []api.Trace{traced(at(4, 129))}, nil, api.ErrUnknown},
		{[]api.Packet{sent(0, 8)}, []api.Trace{traced(at(0, 1))}, nil, api.ErrUnknown},
		{[]api.Packet{sent(0, 8), sent(1, 8)}, []api.Trace{traced(at(5, 1)), traced(at(5, 1))}, nil, api.ErrUnknown},
		{[]api.Packet{sent(0, 8), sent(1, 8)}, []api.Trace{traced(at(3, 1)), traced(at(3, 1))}, nil, api.ErrUnknown},
	} {
		if got, e := ingress.Reached(p, c.packets, c.traces); e != c.code || !slices.Equal(got, c.want) {
			t.Errorf("%d: %v are reached, %d, not %v, %d", i, got, e, c.want, c.code)
		}
	}
	for _, empty := range []api.Plan{{}, plan(8)} {
		if got, e := ingress.Reached(empty, []api.Packet{sent(0, 8)}, []api.Trace{traced(at(5, 1))}); e != api.ErrUnknown || len(got) > 0 {
			t.Errorf("without edges, %v are reached, %d", got, e)
		}
	}
}

// reachedOf returns what Reached returns for a plan and packets that are valid, by the definition.
func reachedOf(p api.Plan, l []api.Packet, x []api.Trace) ([]int, api.Errno) {
	routers := map[int]int{}
	for _, edge := range p.Edges {
		routers[edge.ID] = edge.Router
	}
	times := map[int]int{}
	for i, q := range l {
		for _, d := range x[i].Deliveries {
			for bit := range 64 {
				if d.Packet.Bits>>bit%2 == 0 {
					continue
				}
				id := q.Set*q.Length + bit + 1
				if router, ok := routers[id]; bit >= q.Length || !ok || router != d.Router {
					return nil, api.ErrUnknown
				}
				times[id]++
			}
		}
	}
	var ids []int
	for id := range 257 {
		ids = append(ids, slices.Repeat([]int{id}, times[id])...)
	}
	return ids, api.OK
}

// anyDelivery returns a delivery of a packet at an edge of a plan, whose bit it has if this is in its set. With one chance in wrong it is another one.
func anyDelivery(next func(int) int, p api.Plan, q api.Packet, wrong int) api.Delivery {
	edge := p.Edges[next(len(p.Edges))]
	bits := uint64(0)
	if bit := edge.ID - 1 - q.Set*q.Length; bit >= 0 && bit < q.Length {
		bits = 1 << bit
	}
	if next(wrong) == 0 {
		bits ^= 1 << next(64)
	}
	if next(wrong) == 0 {
		edge.Router = next(101)
	}
	// What the packet of a delivery has besides its bits is not looked at.
	return api.Delivery{Router: edge.Router, Packet: api.Packet{Mode: next(5), Set: next(40), Length: next(70), Bits: bits}}
}

// P17.3: any deliveries of packets of any sets and lengths, against the definition.
func TestReached(t *testing.T) {
	next := random(2)
	codes := map[api.Errno]int{}
	for i, p := range plans() {
		for range 40 {
			if len(p.Edges) == 0 {
				continue
			}
			length, wrong := p.Length, 1<<(4+next(8))
			if next(3) == 0 {
				length = lengths[next(4)]
			}
			var l []api.Packet
			var x []api.Trace
			for range 1 + next(5) {
				q := sent((p.Edges[next(len(p.Edges))].ID-1)/length, length)
				q.Mode, q.Subdomain = 1+next(3), next(8)
				one := api.Trace{Losses: []api.Loss{{Router: 1, Bits: 1}}}
				for range next(9) {
					one.Deliveries = append(one.Deliveries, anyDelivery(next, p, q, wrong))
				}
				l, x = append(l, q), append(x, one)
			}
			want, code := reachedOf(p, l, x)
			if got, e := ingress.Reached(p, l, x); e != code || !slices.Equal(got, want) {
				t.Fatalf("%d: of %v with %v, %v are reached, %d, not %v, %d", i, l, x, got, e, want, code)
			}
			codes[code]++
		}
	}
	if codes[api.OK] < 1000 || codes[api.ErrUnknown] < 1000 {
		t.Errorf("the errors are %v", codes)
	}
}

// refusedReached checks that Reached returns this error, and nothing else.
func refusedReached(t *testing.T, p api.Plan, l []api.Packet, x []api.Trace, want api.Errno) {
	t.Helper()
	if got, e := ingress.Reached(p, l, x); e != want || len(got) > 0 {
		t.Errorf("of %v with %v in %v, %v are reached, %d, not the error %d", l, x, p, got, e, want)
	}
}

// P17.3: each reason of ErrInvalid alone, and also where something is unknown.
func TestReachedInvalid(t *testing.T) {
	p := plan(8, 5, 1, 4, 8, 3, 9)
	l := []api.Packet{sent(0, 8), sent(1, 8), sent(0, 16)}
	right := []api.Trace{traced(at(5, 1)), traced(at(3, 1)), traced(at(3, 256))}
	if got, e := ingress.Reached(p, l, right); e != api.OK || !slices.Equal(got, []int{1, 9, 9}) {
		t.Fatalf("%v are reached, %d", got, e)
	}
	unknown := []api.Trace{traced(at(5, 2)), traced(at(5, 1)), traced(at(3, 1<<63))}
	for _, x := range [][]api.Trace{right, unknown, make([]api.Trace, 3)} {
		for _, wrong := range wrongPlans() {
			refusedReached(t, wrong, l, x, api.ErrInvalid)
			refusedReached(t, wrong, nil, nil, api.ErrInvalid)
		}
		refusedReached(t, p, l, nil, api.ErrInvalid)
		refusedReached(t, p, l, x[:2], api.ErrInvalid)
		refusedReached(t, p, l[:2], x, api.ErrInvalid)
		refusedReached(t, p, nil, x, api.ErrInvalid)
		refusedReached(t, p, append(slices.Clone(l), l...), x, api.ErrInvalid)
		for k := range l {
			for _, wrong := range append(spoiled(l[k]), wrongPlaces(l[k])...) {
				spoiled := slices.Clone(l)
				spoiled[k] = wrong
				refusedReached(t, p, spoiled, x, api.ErrInvalid)
			}
		}
	}
	refusedReached(t, p, l, unknown, api.ErrUnknown)
	for k := range l {
		one := slices.Clone(right)
		one[k] = unknown[k]
		refusedReached(t, p, l, one, api.ErrUnknown)
	}
}

// wrongPlaces returns copies of a packet with a subdomain, a set, a length or bits that are not valid.
func wrongPlaces(q api.Packet) []api.Packet {
	var l []api.Packet
	add := func(spoil func(p *api.Packet)) {
		p := q
		spoil(&p)
		l = append(l, p)
	}
	for _, n := range append([]int{33, 99}, far...) {
		add(func(p *api.Packet) { p.Subdomain = n })
		add(func(p *api.Packet) { p.Set = n })
		add(func(p *api.Packet) { p.Length = n })
	}
	add(func(p *api.Packet) { p.Subdomain = 8 })
	add(func(p *api.Packet) { p.Set = 32 })
	add(func(p *api.Packet) { p.Length = 0 })
	add(func(p *api.Packet) { p.Bits = 1 << q.Length })
	add(func(p *api.Packet) { p.Bits |= 1 << 63 })
	return l
}

// P17.4: known lists.
func TestMissingKnown(t *testing.T) {
	for i, c := range []struct{ ids, reached, missing, foreign, repeated []int }{
		{},
		{ids: []int{}, reached: []int{}},
		{ids: []int{1, 8, 9}, reached: []int{1, 8, 9}},
		{ids: []int{1, 8, 9}, missing: []int{1, 8, 9}},
		{reached: []int{1, 8, 9}, foreign: []int{1, 8, 9}},
		{ids: []int{1, 8, 9}, reached: []int{1, 9}, missing: []int{8}},
		{ids: []int{1, 9}, reached: []int{1, 8, 9}, foreign: []int{8}},
		{ids: []int{1, 9}, reached: []int{1, 9, 9}, repeated: []int{9}},
		{ids: []int{1, 2, 3}, reached: []int{2, 2, 4, 5, 5}, missing: []int{1, 3}, foreign: []int{4, 5}, repeated: []int{2, 5}},
		// Neither list need be ascending.
		{ids: []int{9, 1, 9, 5, 1}, reached: []int{7, 5, 3, 7, 3, 3, 8}, missing: []int{1, 9}, foreign: []int{3, 7, 8}, repeated: []int{3, 7}},
		{ids: []int{4, 4, 4}, reached: []int{4}},
		{ids: []int{3, 1, 2}, reached: []int{2, 3, 1}},
		{
			ids: []int{math.MaxInt, 0, math.MinInt}, reached: []int{-1, math.MaxInt, -1, math.MinInt, math.MaxInt, 257},
			missing: []int{0}, foreign: []int{-1, 257}, repeated: []int{-1, math.MaxInt},
		},
	} {
		missing, foreign, repeated := ingress.Missing(c.ids, c.reached)
		if !slices.Equal(missing, c.missing) || !slices.Equal(foreign, c.foreign) || !slices.Equal(repeated, c.repeated) {
			t.Errorf("%d: missing are %v, not %v; foreign %v, not %v; repeated %v, not %v", i, missing, c.missing, foreign, c.foreign, repeated, c.repeated)
		}
	}
}

// times returns how often a number occurs in a list.
func times(l []int, n int) int {
	return len(l) - len(slices.DeleteFunc(slices.Clone(l), func(other int) bool { return other == n }))
}

// P17.4: any lists of numbers from a short range, against the definition.
func TestMissing(t *testing.T) {
	next := random(3)
	for range 5000 {
		low, width := []int{math.MinInt, -5, 1, 250, math.MaxInt - 11}[next(5)], 1+next(12)
		ids, reached := make([]int, next(12)), make([]int, next(12))
		for k := range ids {
			ids[k] = low + next(width)
		}
		for k := range reached {
			reached[k] = low + next(width)
		}
		var want [3][]int
		all := slices.Concat(ids, reached)
		slices.Sort(all)
		for _, n := range slices.Compact(all) {
			for k, holds := range []bool{times(ids, n) > 0 && times(reached, n) == 0, times(reached, n) > 0 && times(ids, n) == 0, times(reached, n) > 1} {
				if holds {
					want[k] = append(want[k], n)
				}
			}
		}
		missing, foreign, repeated := ingress.Missing(ids, reached)
		if !slices.Equal(missing, want[0]) || !slices.Equal(foreign, want[1]) || !slices.Equal(repeated, want[2]) {
			t.Fatalf("of %v and %v missing are %v, foreign %v, repeated %v, not %v", ids, reached, missing, foreign, repeated, want)
		}
	}
}

// P17.4: long lists, the ends of which meet.
func TestMissingLong(t *testing.T) {
	const n = 300000
	ids, reached := make([]int, n), make([]int, n)
	for k := range n {
		ids[k], reached[k] = n-k, n-1+k/2
	}
	missing, foreign, repeated := ingress.Missing(ids, reached)
	if len(missing) != n-2 || missing[0] != 1 || missing[n-3] != n-2 {
		t.Errorf("%d are missing", len(missing))
	}
	if len(foreign) != n/2-2 || foreign[0] != n+1 || foreign[n/2-3] != n+n/2-2 {
		t.Errorf("%d are foreign", len(foreign))
	}
	if len(repeated) != n/2 || repeated[0] != n-1 || repeated[n/2-1] != n+n/2-2 {
		t.Errorf("%d are repeated", len(repeated))
	}
}

// P17.4: crossings of all traces, also of equal ones.
func TestCrossings(t *testing.T) {
	one := api.Crossing{From: 1, To: 2, Bits: 3}
	for i, c := range []struct {
		counts []int
		want   int
	}{{nil, 0}, {[]int{}, 0}, {[]int{0}, 0}, {[]int{1}, 1}, {[]int{5, 0, 2}, 7}, {[]int{0, 0, 9}, 9}, {[]int{1, 1, 1, 1}, 4}, {[]int{1000, 10000}, 11000}} {
		var l []api.Trace
		for _, n := range c.counts {
			l = append(l, api.Trace{Deliveries: make([]api.Delivery, 3), Crossings: slices.Repeat([]api.Crossing{one}, n), Losses: make([]api.Loss, 5)})
		}
		if got := ingress.Crossings(l); got != c.want {
			t.Errorf("%d: there are %d crossings, not %d", i, got, c.want)
		}
	}
}

// R5, R6: Missing leaves its arguments as they are, and its lists share no memory with them or each other.
func TestMissingStays(t *testing.T) {
	ids, reached := []int{9, 1, 4, 1, 5}, []int{7, 4, 3, 7, 3, 3}
	for range 3 {
		missing, foreign, repeated := ingress.Missing(ids, reached)
		if !slices.Equal(missing, []int{1, 5, 9}) || !slices.Equal(foreign, []int{3, 7}) || !slices.Equal(repeated, []int{3, 7}) {
			t.Errorf("missing are %v, foreign %v, repeated %v", missing, foreign, repeated)
		}
		for k, l := range [][]int{missing, foreign, repeated} {
			whole := l[:cap(l)]
			for i := range whole {
				whole[i] = -k
			}
		}
		for k, l := range [][]int{missing, foreign, repeated} {
			if times(l, -k) != len(l) {
				t.Errorf("the lists share memory: %v, %v, %v", missing, foreign, repeated)
			}
		}
		if !slices.Equal(ids, []int{9, 1, 4, 1, 5}) || !slices.Equal(reached, []int{7, 4, 3, 7, 3, 3}) {
			t.Fatalf("the arguments change: %v, %v", ids, reached)
		}
	}
}
