package tunnel_test

import (
	"fmt"
	"math"
	"slices"
	"testing"

	"bitcast/api"
	"bitcast/shortest"
	"bitcast/tunnel"
)

// far has numbers that are out of every range, some of which seem to be in one if only their lowest bits are looked at, or if they are multiplied.
var far = []int{math.MinInt, math.MinInt + 1, -1 << 61, -1 << 32, -1<<32 + 2, -257, -8, -2, -1, 1024, 1 << 32, 1<<32 + 1, 1<<32 + 2, 1 << 58, 1 << 61, 1<<61 + 1, 1 << 62, math.MaxInt - 1, math.MaxInt}

// random returns a fixed sequence of numbers below n, so that each run of the tests is the same.
func random(seed uint64) func(n int) int {
	return func(n int) int {
		seed = seed*6364136223846793005 + 1442695040888963407
		return int(seed >> 33 % uint64(n))
	}
}

// upTo returns n numbers, the first one of which is low.
func upTo(low, n int) []int {
	var l []int
	for i := range n {
		l = append(l, low+i)
	}
	return l
}

// way is a link with its costs in both directions.
type way struct{ a, b, there, back int }

// even returns a link with the cost 1 in both directions.
func even(a, b int) way { return way{a, b, 1, 1} }

// net returns a topology of the routers 1 to n, of which the plain ones are not capable.
func net(n int, plain []int, ways ...way) api.Topology {
	var t api.Topology
	for _, router := range upTo(1, n) {
		t.Routers = append(t.Routers, api.Router{ID: router, Capable: !slices.Contains(plain, router)})
	}
	for _, w := range ways {
		t.Links = append(t.Links, api.Link{A: w.a, B: w.b, CostA: w.there, CostB: w.back})
	}
	return t
}

// chain returns a chain of the routers 1 to n, of which the plain ones are not capable.
func chain(n int, plain []int) api.Topology {
	var ways []way
	for router := 1; router < n; router++ {
		ways = append(ways, even(router, router+1))
	}
	return net(n, plain, ways...)
}

// meshed returns a topology of these routers, in which each pair has a link with one chance in thin, as far as there may be links. Costs are at most dear. Of each ten routers, about plain are not capable.
func meshed(next func(int) int, routers []int, thin, dear, plain int) api.Topology {
	var t api.Topology
	for _, router := range routers {
		t.Routers = append(t.Routers, api.Router{ID: router, Capable: next(10) >= plain})
	}
	for i, a := range routers {
		for _, b := range routers[i+1:] {
			if next(thin) == 0 && len(t.Links) < 60 {
				t.Links = append(t.Links, api.Link{A: a, B: b, CostA: 1 + next(dear), CostB: 1 + next(dear)})
			}
		}
	}
	return t
}

// apart returns n numbers of routers that are so many apart.
func apart(n, step int) []int {
	l := upTo(0, n)
	for i := range l {
		l[i] = 1 + i*step
	}
	return l
}

// small returns topologies of so few routers that all their paths can be gone through.
func small() []api.Topology {
	next := random(16)
	l := []api.Topology{{}}
	for n := 1; n <= 7; n++ {
		for _, plain := range []int{0, 3, 5, 8, 9, 10} {
			for _, dear := range []int{1, 2, 4, 1000} {
				l = append(l, meshed(next, apart(n, 1+next(15)), 1, dear, plain), meshed(next, apart(n, 1), 2, dear, plain))
			}
		}
	}
	return l
}

// layered returns a topology of layers of four routers between its ends, in which all shortest paths pass all layers; these routers are plain, but for the last layers.
func layered(layers, capable int) api.Topology {
	n := 2 + 4*layers
	var plain []int
	for router := 2; router < n-4*capable; router++ {
		plain = append(plain, router)
	}
	ways := []way{even(1, 2), even(1, 3), even(1, 4), even(1, 5)}
	for from := 2; from < n-4; from++ {
		first := from + 4 - (from-2)%4
		for _, to := range upTo(first, 4) {
			// There are fewer links than pairs, but each router has some forward.
			if (from+to)%4 != 0 {
				ways = append(ways, even(from, to))
			}
		}
	}
	for from := n - 4; from < n; from++ {
		ways = append(ways, even(from, n))
	}
	return net(n, plain, ways...)
}

// great returns topologies of all sizes, too many paths of which to go through.
func great() []api.Topology {
	next := random(17)
	var l []api.Topology
	for _, n := range []int{9, 14, 20, 24} {
		for _, plain := range []int{3, 6, 8, 9, 10} {
			for _, dear := range []int{1, 2, 5, 1000} {
				l = append(l, meshed(next, apart(n, 1+next(4)), 1+n/5, dear, plain))
			}
		}
	}
	for layers := 1; layers <= 5; layers++ {
		for capable := 0; capable <= min(layers, 2); capable++ {
			l = append(l, layered(layers, capable))
		}
	}
	return append(l, chain(24, upTo(2, 22)), chain(24, upTo(1, 24)), chain(24, []int{2, 3, 9, 10, 11, 23}))
}

// wrongTopologies returns topologies that are not valid, for all reasons, with links between the routers 40, 41 and 50 as far as they can have them.
func wrongTopologies() []api.Topology {
	spoilers := []func(t *api.Topology){
		func(t *api.Topology) { t.Routers[0].ID = 0 },
		func(t *api.Topology) { t.Routers[3].ID = 100 },
		func(t *api.Topology) { t.Routers[3].ID = 50 },
		func(t *api.Topology) { t.Routers[0], t.Routers[1] = t.Routers[1], t.Routers[0] },
		func(t *api.Topology) { t.Routers = t.Routers[:2] },
		func(t *api.Topology) { t.Links[0].CostA = 0 },
		func(t *api.Topology) { t.Links[2].CostB = 1001 },
		func(t *api.Topology) { t.Links[1].Capacity = -1 },
		func(t *api.Topology) { t.Links[2].Capacity = 1001 },
		func(t *api.Topology) { t.Links[2].B = 70 },
		func(t *api.Topology) { t.Links[2].A, t.Links[2].B = 60, 50 },
		func(t *api.Topology) { t.Links[2].B = 50 },
		func(t *api.Topology) { t.Links[2] = t.Links[1] },
		func(t *api.Topology) { t.Links[0], t.Links[1] = t.Links[1], t.Links[0] },
		func(t *api.Topology) { t.Routers = append(t.Routers, t.Routers[3]) },
		func(t *api.Topology) {
			for router := 61; len(t.Routers) < 25; router++ {
				t.Routers = append(t.Routers, api.Router{ID: router})
			}
		},
		func(t *api.Topology) { t.Links = append(t.Links, make([]api.Link, 58)...) },
	}
	for _, n := range far {
		spoilers = append(spoilers, func(t *api.Topology) { t.Routers[3].ID = n }, func(t *api.Topology) { t.Links[0].CostA = n }, func(t *api.Topology) { t.Links[2].CostB = n })
		spoilers = append(spoilers, func(t *api.Topology) { t.Links[2].B = n }, func(t *api.Topology) { t.Links[0].A = n })
		if n < 0 || n > 1000 {
			spoilers = append(spoilers, func(t *api.Topology) { t.Links[1].Capacity = n })
		}
	}
	var l []api.Topology
	for _, spoil := range spoilers {
		t := ground()
		spoil(&t)
		l = append(l, t)
	}
	return l
}

// ground returns a chain of the routers 40, 41, 50 and 60, of which 41 is not capable.
func ground() api.Topology {
	return api.Topology{
		Routers: []api.Router{{ID: 40, Capable: true}, {ID: 41}, {ID: 50, Capable: true}, {ID: 60, Capable: true}},
		Links:   []api.Link{{A: 40, B: 41, CostA: 1, CostB: 1}, {A: 41, B: 50, CostA: 1, CostB: 1}, {A: 50, B: 60, CostA: 1, CostB: 1}},
	}
}

// numbers returns the numbers of the routers of a topology, and some others.
func numbers(n api.Topology) []int {
	l := []int{0, 98}
	for _, r := range n.Routers {
		l = append(l, r.ID)
	}
	return l
}

// isCapable reports whether a router is capable.
func isCapable(n api.Topology, router int) bool {
	return slices.Contains(n.Routers, api.Router{ID: router, Capable: true})
}

// linkCosts returns the costs of all links in both directions.
func linkCosts(n api.Topology) map[api.Hop]int {
	costs := map[api.Hop]int{}
	for _, l := range n.Links {
		costs[api.Hop{From: l.A, To: l.B}] = l.CostA
		costs[api.Hop{From: l.B, To: l.A}] = l.CostB
	}
	return costs
}

// path is the routers of a path behind the first one, and its cost.
type path struct {
	routers []int
	cost    int
}

// pathsFrom returns all paths from a router that pass no router twice.
func pathsFrom(n api.Topology, from int) []path {
	costs := linkCosts(n)
	paths := []path{{}}
	for i := 0; i < len(paths); i++ {
		at, seen := from, append([]int{from}, paths[i].routers...)
		if len(seen) > 1 {
			at = seen[len(seen)-1]
		}
		for _, r := range n.Routers {
			if cost, ok := costs[api.Hop{From: at, To: r.ID}]; ok && !slices.Contains(seen, r.ID) {
				paths = append(paths, path{append(slices.Clone(paths[i].routers), r.ID), paths[i].cost + cost})
			}
		}
	}
	return paths
}

// leastOf returns the route to another router, by the definition: the least of those shortest paths that pass no capable router.
func leastOf(n api.Topology, paths []path, to int) []int {
	least := math.MaxInt
	var all []path
	for _, p := range paths {
		if len(p.routers) == 0 || p.routers[len(p.routers)-1] != to {
			continue
		}
		least = min(least, p.cost)
		all = append(all, p)
	}
	var routes [][]int
	for _, p := range all {
		inner := p.routers[:len(p.routers)-1]
		if p.cost == least && !slices.ContainsFunc(inner, func(router int) bool { return isCapable(n, router) }) {
			routes = append(routes, p.routers)
		}
	}
	if len(routes) == 0 {
		return nil
	}
	return slices.MinFunc(routes, slices.Compare)
}

// allCosts returns the costs of the shortest paths between all routers that are connected.
func allCosts(n api.Topology) map[api.Hop]int {
	all := linkCosts(n)
	for _, r := range n.Routers {
		all[api.Hop{From: r.ID, To: r.ID}] = 0
	}
	for _, over := range n.Routers {
		for _, a := range n.Routers {
			for _, b := range n.Routers {
				before, ok := all[api.Hop{From: a.ID, To: over.ID}]
				behind, on := all[api.Hop{From: over.ID, To: b.ID}]
				cost, known := all[api.Hop{From: a.ID, To: b.ID}]
				if ok && on && (!known || before+behind < cost) {
					all[api.Hop{From: a.ID, To: b.ID}] = before + behind
				}
			}
		}
	}
	return all
}

// routesOf returns a function for the routes of a topology of any size. A route goes on as the least one from its first router does.
func routesOf(n api.Topology) func(from, to int) []int {
	links, all := linkCosts(n), allCosts(n)
	known := map[api.Hop][]int{}
	var route func(from, to int) []int
	route = func(from, to int) []int {
		if r, ok := known[api.Hop{From: from, To: to}]; ok || from == to {
			return r
		}
		var least []int
		for _, r := range n.Routers {
			first, ok := links[api.Hop{From: from, To: r.ID}]
			rest, on := all[api.Hop{From: r.ID, To: to}]
			if !ok || !on || first+rest != all[api.Hop{From: from, To: to}] || r.ID != to && r.Capable {
				continue
			}
			behind := route(r.ID, to)
			if r.ID != to && len(behind) == 0 {
				continue
			}
			if whole := append([]int{r.ID}, behind...); len(least) == 0 || slices.Compare(whole, least) < 0 {
				least = whole
			}
		}
		known[api.Hop{From: from, To: to}] = least
		return least
	}
	return route
}

// P16.1: known routes.
func TestRouteKnown(t *testing.T) {
	square := []way{even(1, 2), even(1, 3), even(2, 4), even(3, 4)}
	twice := []way{even(1, 2), even(1, 3), even(2, 4), even(2, 5), even(3, 4), even(3, 5), even(4, 6), even(5, 6)}
	for i, c := range []struct {
		n        api.Topology
		from, to int
		want     []int
	}{
		{chain(3, []int{2}), 1, 3, []int{2, 3}}, {chain(3, []int{2}), 3, 1, []int{2, 1}}, {chain(3, []int{2}), 1, 2, []int{2}}, {chain(3, []int{2}), 2, 3, []int{3}},
		{chain(3, nil), 1, 2, []int{2}}, {chain(3, nil), 1, 3, nil}, {chain(3, []int{1, 3}), 1, 3, nil}, {chain(3, []int{1, 2, 3}), 1, 3, []int{2, 3}},
		{chain(3, []int{2}), 1, 1, nil}, {chain(3, []int{2}), 2, 2, nil}, {chain(3, []int{2}), 1, 4, nil}, {chain(3, []int{2}), 4, 1, nil}, {chain(3, []int{2}), 4, 4, nil},
		{chain(3, []int{2}), 0, 0, nil}, {api.Topology{}, 1, 2, nil}, {net(2, []int{1, 2}), 1, 2, nil}, {net(4, []int{2, 3}, even(1, 2), even(3, 4)), 1, 4, nil},
		// Of two routes, the least one, of two paths that which passes no capable router.
		{net(4, []int{2, 3}, square...), 1, 4, []int{2, 4}}, {net(4, []int{2, 3}, square...), 4, 1, []int{2, 1}}, {net(4, []int{3}, square...), 1, 4, []int{3, 4}},
		{net(4, []int{2}, square...), 1, 4, []int{2, 4}}, {net(4, []int{2}, square...), 2, 3, nil}, {net(4, []int{1, 4}, square...), 3, 2, []int{1, 2}}, {net(4, []int{1, 4}, square...), 1, 4, nil},
		// The least beginning may have no end.
		{net(6, []int{2, 3, 4, 5}, twice...), 1, 6, []int{2, 4, 6}}, {net(6, []int{2, 3, 5}, twice...), 1, 6, []int{2, 5, 6}},
		{net(6, []int{3, 5}, twice...), 1, 6, []int{3, 5, 6}}, {net(6, []int{2, 3}, twice...), 1, 6, nil},
		{net(6, []int{2, 3, 5}, slices.Delete(slices.Clone(twice), 3, 4)...), 1, 6, []int{3, 5, 6}},
		{net(6, []int{2, 3, 5}, twice...), 6, 1, []int{5, 2, 1}}, {net(6, []int{3, 4, 5}, twice...), 6, 1, []int{4, 3, 1}},
		// A way that costs more is no shortest path, though no capable router is on it; one hop may cost more than two.
		{net(4, []int{3}, even(1, 2), way{1, 3, 2, 2}, even(2, 4), even(3, 4)), 1, 4, nil},
		{net(4, []int{3}, way{1, 2, 2, 2}, even(1, 3), even(2, 4), even(3, 4)), 1, 4, []int{3, 4}},
		{net(3, []int{2}, even(1, 2), way{1, 3, 3, 3}, even(2, 3)), 1, 3, []int{2, 3}},
		{net(3, []int{2}, even(1, 2), way{1, 3, 2, 2}, even(2, 3)), 1, 3, []int{2, 3}},
		{net(3, []int{2}, even(2, 3), way{1, 3, 2, 2}, even(1, 2)), 1, 3, nil},
		{net(3, nil, even(1, 2), way{1, 3, 2, 2}, even(2, 3)), 1, 3, []int{3}},
		{net(3, nil, even(1, 2), way{1, 3, 3, 3}, even(2, 3)), 1, 3, nil},
		{net(3, []int{1}, even(1, 2), even(1, 3), way{2, 3, 2, 2}), 3, 2, []int{1, 2}},
		{net(3, []int{3}, way{1, 2, 2, 2}, even(1, 3), even(2, 3)), 1, 2, []int{2}},
		// Costs differ in both directions.
		{net(4, []int{2, 3}, way{1, 2, 1, 9}, way{1, 3, 2, 1}, way{2, 4, 2, 1}, way{3, 4, 2, 1}), 1, 4, []int{2, 4}},
		{net(4, []int{2, 3}, way{1, 2, 1, 9}, way{1, 3, 2, 1}, way{2, 4, 2, 1}, way{3, 4, 2, 1}), 4, 1, []int{3, 1}},
		{net(4, []int{2, 3}, way{1, 2, 1000, 1}, way{1, 3, 999, 1}, way{2, 4, 1000, 1}, way{3, 4, 1000, 2}), 1, 4, []int{3, 4}},
		{chain(24, upTo(2, 22)), 1, 24, upTo(2, 23)}, {chain(24, upTo(1, 24)), 2, 23, upTo(3, 21)},
		{chain(24, upTo(2, 21)), 1, 24, nil}, {chain(24, upTo(3, 21)), 1, 24, nil}, {chain(24, upTo(3, 21)), 2, 24, upTo(3, 22)},
	} {
		if got := tunnel.Route(c.n, c.from, c.to); !slices.Equal(got, c.want) {
			t.Errorf("%d: the route from %d to %d is %v, not %v", i, c.from, c.to, got, c.want)
		}
	}
}

// P16.1: between all routers of small topologies, against all paths.
func TestRouteOnPaths(t *testing.T) {
	some, none := 0, 0
	for i, n := range small() {
		for _, from := range numbers(n) {
			paths := pathsFrom(n, from)
			for _, to := range numbers(n) {
				want := leastOf(n, paths, to)
				if got := tunnel.Route(n, from, to); !slices.Equal(got, want) {
					t.Errorf("%d: in %v the route from %d to %d is %v, not %v", i, n, from, to, got, want)
				}
				if len(want) > 1 {
					some++
				}
				if cost, connected := shortest.Cost(n, from, to); connected && cost > 0 && len(want) == 0 {
					none++
				}
			}
		}
	}
	if some < 500 || none < 500 {
		t.Errorf("only %d routes are longer than a link, and only %d pairs that are connected have none", some, none)
	}
}

// P16.1: between all routers of great topologies, some of which have very many shortest paths.
func TestRouteByCosts(t *testing.T) {
	longest := 0
	for i, n := range great() {
		route := routesOf(n)
		for _, from := range numbers(n) {
			for _, to := range numbers(n) {
				want := route(from, to)
				if got := tunnel.Route(n, from, to); !slices.Equal(got, want) {
					t.Errorf("%d: in %v the route from %d to %d is %v, not %v", i, n, from, to, got, want)
				}
				longest = max(longest, len(want))
			}
		}
	}
	if longest != 23 {
		t.Errorf("the longest route has %d routers", longest)
	}
}

// P16.1, P16.2: nothing in topologies that are not valid, and for numbers far away.
func TestRouteInvalid(t *testing.T) {
	check := func(what string, n api.Topology, from, to int) {
		t.Helper()
		if got := tunnel.Route(n, from, to); len(got) > 0 {
			t.Errorf("%s: the route from %d to %d in %v is %v", what, from, to, n, got)
		}
		c := api.Copy{To: to, Frame: api.Frame{Packet: right(8)}}
		if got, ok := tunnel.Send(n, from, c); ok || !sameCopy(got, api.Copy{}) {
			t.Errorf("%s: from %d to %d in %v, %v is sent, %t", what, from, to, n, got, ok)
		}
	}
	if got := tunnel.Route(ground(), 40, 50); !slices.Equal(got, []int{41, 50}) {
		t.Fatalf("the route is %v", got)
	}
	for i, n := range wrongTopologies() {
		for _, from := range []int{0, 40, 41, 50, 60} {
			for _, to := range []int{0, 40, 41, 50, 60} {
				check(fmt.Sprint("wrong ", i), n, from, to)
			}
		}
	}
	for _, number := range append(far, 0, 39, 42, 61, 99, 100) {
		for _, router := range []int{40, 41, 50, 60, number} {
			check("far", ground(), number, router)
			check("far", ground(), router, number)
		}
	}
}

// sameCopy reports whether two copies are equal.
func sameCopy(a, b api.Copy) bool {
	return a.To == b.To && slices.Equal(a.Frame.Route, b.Frame.Route) && a.Frame.Packet == b.Frame.Packet
}

// P16.2: known copies. The packet stays as it is.
func TestSendKnown(t *testing.T) {
	p := right(16)
	for i, c := range []struct {
		n          api.Topology
		router, to int
		want       api.Copy
		ok         bool
	}{
		{chain(3, []int{2}), 1, 3, api.Copy{To: 2, Frame: api.Frame{Route: []int{3}, Packet: p}}, true},
		{chain(3, []int{2}), 3, 1, api.Copy{To: 2, Frame: api.Frame{Route: []int{1}, Packet: p}}, true},
		{chain(3, []int{2}), 1, 2, api.Copy{To: 2, Frame: api.Frame{Packet: p}}, true},
		{chain(3, nil), 1, 2, api.Copy{To: 2, Frame: api.Frame{Packet: p}}, true},
		{chain(5, []int{2, 3, 4}), 1, 5, api.Copy{To: 2, Frame: api.Frame{Route: []int{3, 4, 5}, Packet: p}}, true},
		{chain(24, upTo(2, 22)), 24, 1, api.Copy{To: 23, Frame: api.Frame{Route: []int{22, 21, 20, 19, 18, 17, 16, 15, 14, 13, 12, 11, 10, 9, 8, 7, 6, 5, 4, 3, 2, 1}, Packet: p}}, true},
		{chain(3, nil), 1, 3, api.Copy{}, false}, {chain(3, []int{2}), 1, 1, api.Copy{}, false}, {chain(3, []int{2}), 1, 4, api.Copy{}, false}, {net(2, nil), 1, 2, api.Copy{}, false},
	} {
		got, ok := tunnel.Send(c.n, c.router, api.Copy{To: c.to, Frame: api.Frame{Packet: p}})
		if ok != c.ok || !sameCopy(got, c.want) {
			t.Errorf("%d: Send is %v, %t, not %v, %t", i, got, ok, c.want, c.ok)
		}
	}
}

// P16.2: copies with any packets, between all routers.
func TestSend(t *testing.T) {
	next := random(2)
	for i, n := range append(small(), layered(4, 1), chain(24, upTo(1, 24))) {
		route := routesOf(n)
		for _, from := range numbers(n) {
			for _, to := range numbers(n) {
				p := randomPacket(next, api.Table{Subdomain: next(8), Length: lengths[next(4)]}, next(32))
				var want api.Copy
				r := route(from, to)
				if len(r) > 0 {
					want = api.Copy{To: r[0], Frame: api.Frame{Route: r[1:], Packet: p}}
				}
				got, ok := tunnel.Send(n, from, api.Copy{To: to, Frame: api.Frame{Packet: p}})
				if ok != (len(r) > 0) || !sameCopy(got, want) {
					t.Errorf("%d: from %d to %d, Send is %v, %t, not %v", i, from, to, got, ok, want)
				}
			}
		}
	}
}

// R5, R6: Route and Send leave their arguments as they are, and answer the same again, in memory of their own.
func TestRoutesStay(t *testing.T) {
	for i, n := range append(append(small(), wrongTopologies()...), layered(3, 1), chain(24, upTo(2, 22))) {
		kept := fmt.Sprint(n)
		for _, from := range numbers(n) {
			for _, to := range numbers(n) {
				c := api.Copy{To: to, Frame: api.Frame{Packet: right(8)}}
				route := tunnel.Route(n, from, to)
				sent, ok := tunnel.Send(n, from, c)
				first := fmt.Sprint(route, sent, ok)
				for k := range route {
					route[k] = -1
				}
				for k := range sent.Frame.Route {
					sent.Frame.Route[k] = -1
				}
				sent, ok = tunnel.Send(n, from, c)
				if again := fmt.Sprint(tunnel.Route(n, from, to), sent, ok); again != first {
					t.Errorf("%d: the answers are first %s, then %s", i, first, again)
				}
			}
		}
		if again := fmt.Sprint(n); again != kept {
			t.Errorf("%d: the topology was %s, and is %s", i, kept, again)
		}
	}
}
