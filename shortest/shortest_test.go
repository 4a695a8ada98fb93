package shortest_test

import (
	"math"
	"slices"
	"testing"

	"bitcast/api"
	"bitcast/shortest"
	"bitcast/topology"
)

// far has numbers that are no routers, some of which seem to be one if only their lowest bits are looked at.
var far = []int{math.MinInt, math.MinInt + 1, -1 << 32, -1, 0, 100, 129, 1 << 20, 1<<32 + 1, 1<<32 + 2, math.MaxInt}

// random returns a fixed sequence of numbers below n, so that each run of the tests is the same.
func random(seed uint64) func(n int) int {
	return func(n int) int {
		seed = seed*6364136223846793005 + 1442695040888963407
		return int(seed >> 33 % uint64(n))
	}
}

// routers returns n routers, the numbers of which are so many apart. Every third one is not capable.
func routers(n, apart int) []api.Router {
	l := make([]api.Router, n)
	for i := range l {
		l[i] = api.Router{ID: 1 + i*apart, Capable: i%3 != 2}
	}
	return l
}

// way is a link as the tests write it: its ends, and its costs in both directions.
type way struct{ a, b, there, back int }

// of returns the topology of the routers 1 to n with these links.
func of(n int, ways ...way) api.Topology {
	t := api.Topology{Routers: routers(n, 1)}
	for i, w := range ways {
		t.Links = append(t.Links, api.Link{A: w.a, B: w.b, CostA: w.there, CostB: w.back, Capacity: 7 * i})
	}
	return t
}

// evenly returns the topology of the routers 1 to n with links that cost 1 in both directions.
func evenly(n int, ends ...[2]int) api.Topology {
	var ways []way
	for _, e := range ends {
		ways = append(ways, way{e[0], e[1], 1, 1})
	}
	return of(n, ways...)
}

// example returns the topology of the chapter's example.
func example() api.Topology {
	return evenly(4, [2]int{1, 2}, [2]int{1, 3}, [2]int{2, 4}, [2]int{3, 4})
}

// meshed returns a topology of n routers in which each pair has a link with one chance in thin, as far as there may be links. Costs are at most dear: if they are small, there are many shortest paths.
func meshed(next func(int) int, n, apart, thin, dear int) api.Topology {
	t := api.Topology{Routers: routers(n, apart)}
	for i, a := range t.Routers {
		for _, b := range t.Routers[i+1:] {
			if next(thin) == 0 && len(t.Links) < 60 {
				t.Links = append(t.Links, api.Link{A: a.ID, B: b.ID, CostA: 1 + next(dear), CostB: 1 + next(dear), Capacity: next(1001)})
			}
		}
	}
	return t
}

// small returns topologies of which all paths can be listed.
func small() []api.Topology {
	next := random(1)
	l := []api.Topology{{}, {Routers: []api.Router{}, Links: []api.Link{}}, of(1), of(2), of(2, way{1, 2, 1, 1000}), of(7), example()}
	for n := 1; n <= 7; n++ {
		for thin := 1; thin <= 3; thin++ {
			for _, dear := range []int{1, 2, 3, 8, 1000} {
				l = append(l, meshed(next, n, 1+next(14), thin, dear))
			}
		}
	}
	return l
}

// great returns topologies with many routers.
func great() []api.Topology {
	next := random(2)
	l := []api.Topology{chain(24, 1000, 1), chain(24, 1, 1000), crowded()}
	for n := 8; n <= 24; n += 2 {
		for _, thin := range []int{1, 3, 6, 12} {
			for _, dear := range []int{1, 4, 1000} {
				l = append(l, meshed(next, n, 4, thin, dear))
			}
		}
	}
	return l
}

// chain returns routers each of which has a link to the next one.
func chain(n, there, back int) api.Topology {
	t := of(n)
	for a := 1; a < n; a++ {
		t.Links = append(t.Links, api.Link{A: a, B: a + 1, CostA: there, CostB: back})
	}
	return t
}

// crowded returns the topology with 24 routers and 60 links that has the most shortest paths of those that a search has gone through: each router has links from some before it, at most eight, and all paths between two routers cost the same.
func crowded() api.Topology {
	var t api.Topology
	for i, links := range []int{0, 1, 2, 3, 2, 3, 3, 2, 3, 3, 2, 3, 3, 3, 3, 3, 2, 3, 3, 2, 3, 3, 2, 3} {
		b := i + 1
		t.Routers = append(t.Routers, api.Router{ID: b, Capable: true})
		for a := b - links; a < b; a++ {
			t.Links = append(t.Links, api.Link{A: a, B: b, CostA: b - a, CostB: b - a})
		}
	}
	slices.SortFunc(t.Links, func(l, m api.Link) int { return (l.A-m.A)*100 + l.B - m.B })
	return t
}

// invalid returns topologies that are not valid, for all reasons, with links between the routers 1, 2 and 3 as far as they can have them.
func invalid() []api.Topology {
	sound := func() api.Topology { return evenly(3, [2]int{1, 2}, [2]int{1, 3}, [2]int{2, 3}) }
	var l []api.Topology
	for _, spoil := range []func(t *api.Topology){
		func(t *api.Topology) { t.Routers = routers(25, 1) },
		func(t *api.Topology) {
			*t = meshed(random(3), 12, 1, 1, 9)
			t.Links = append(t.Links, api.Link{A: 11, B: 12, CostA: 1, CostB: 1})
		},
		func(t *api.Topology) { t.Routers = append(t.Routers, api.Router{ID: 100}) },
		func(t *api.Topology) { t.Routers = append([]api.Router{{ID: 0}}, t.Routers...) },
		func(t *api.Topology) { t.Routers = append(t.Routers, api.Router{ID: 3}) },
		func(t *api.Topology) { t.Routers[0], t.Routers[1] = t.Routers[1], t.Routers[0] },
		func(t *api.Topology) { t.Links[2].CostA = 0 },
		func(t *api.Topology) { t.Links[2].CostB = -1 },
		func(t *api.Topology) { t.Links[2].CostA = 1001 },
		func(t *api.Topology) { t.Links[2].CostB = math.MaxInt },
		func(t *api.Topology) { t.Links[2].Capacity = -1 },
		func(t *api.Topology) { t.Links[2].Capacity = 1001 },
		func(t *api.Topology) { t.Links[2].B = 4 },
		func(t *api.Topology) { t.Links[2].B = 2 },
		func(t *api.Topology) { t.Links[2].A, t.Links[2].B = 3, 2 },
		func(t *api.Topology) { t.Links[1], t.Links[2] = t.Links[2], t.Links[1] },
		func(t *api.Topology) { t.Links = append(t.Links, t.Links[2]) },
		func(t *api.Topology) { t.Routers, t.Links = make([]api.Router, 100000), make([]api.Link, 100000) },
	} {
		t := sound()
		spoil(&t)
		l = append(l, t)
	}
	return l
}

// numbers returns the routers of a topology, and some numbers that are none.
func numbers(t api.Topology) []int {
	l := slices.Clone(far)
	for _, r := range t.Routers {
		l = append(l, r.ID)
	}
	return append(l, 2, 50, 99)
}

// has reports whether a topology has a router.
func has(t api.Topology, router int) bool {
	return slices.ContainsFunc(t.Routers, func(r api.Router) bool { return r.ID == router })
}

// linkCosts returns what each link costs in each direction.
func linkCosts(t api.Topology) map[api.Hop]int {
	costs := map[api.Hop]int{}
	for _, l := range t.Links {
		costs[api.Hop{From: l.A, To: l.B}], costs[api.Hop{From: l.B, To: l.A}] = l.CostA, l.CostB
	}
	return costs
}

// pathCost returns what a path costs, and whether all its links exist.
func pathCost(costs map[api.Hop]int, path []int) (int, bool) {
	sum := 0
	for i := 1; i < len(path); i++ {
		cost, exists := costs[api.Hop{From: path[i-1], To: path[i]}]
		if !exists {
			return 0, false
		}
		sum += cost
	}
	return sum, true
}

// pathsFrom returns all paths from a router that pass no router twice, as lists from the router itself on.
func pathsFrom(t api.Topology, from int) [][]int {
	costs := linkCosts(t)
	var all [][]int
	if has(t, from) {
		all = [][]int{{from}}
	}
	// The list grows by what it is gone through for.
	for i := 0; i < len(all); i++ {
		for _, r := range t.Routers {
			_, exists := costs[api.Hop{From: all[i][len(all[i])-1], To: r.ID}]
			if exists && !slices.Contains(all[i], r.ID) {
				all = append(all, append(slices.Clone(all[i]), r.ID))
			}
		}
	}
	return all
}

// shortestOf returns the paths to a router that cost least, and what they cost.
func shortestOf(costs map[api.Hop]int, paths [][]int, to int) ([][]int, int) {
	var least [][]int
	known := 0
	for _, path := range paths {
		if path[len(path)-1] != to {
			continue
		}
		cost, _ := pathCost(costs, path)
		if len(least) == 0 || cost < known {
			least, known = nil, cost
		}
		if cost == known {
			least = append(least, path)
		}
	}
	return least, known
}

// P6.1: examples of costs, which differ in both directions.
func TestCostKnown(t *testing.T) {
	n := of(6, way{1, 2, 5, 1}, way{1, 3, 1, 7}, way{2, 3, 2, 3}, way{3, 4, 10, 4}, way{5, 6, 1000, 1})
	for _, c := range []struct {
		from, to, want int
		ok             bool
	}{
		{1, 1, 0, true}, {1, 2, 4, true}, {1, 3, 1, true}, {1, 4, 11, true},
		{2, 1, 1, true}, {2, 2, 0, true}, {2, 3, 2, true}, {2, 4, 12, true},
		{3, 1, 4, true}, {3, 2, 3, true}, {3, 4, 10, true},
		{4, 1, 8, true}, {4, 2, 7, true}, {4, 3, 4, true}, {4, 4, 0, true},
		{5, 6, 1000, true}, {6, 5, 1, true}, {6, 6, 0, true},
		{1, 5, 0, false}, {6, 4, 0, false}, {1, 7, 0, false}, {7, 1, 0, false}, {7, 7, 0, false}, {0, 0, 0, false},
	} {
		if got, ok := shortest.Cost(n, c.from, c.to); got != c.want || ok != c.ok {
			t.Errorf("Cost from %d to %d is %d, %v, want %d, %v", c.from, c.to, got, ok, c.want, c.ok)
		}
	}
}

// P6.1: examples of distances.
func TestDistancesKnown(t *testing.T) {
	n := of(6, way{1, 5, 5, 1}, way{2, 5, 2, 4}, way{3, 6, 1, 1})
	for _, c := range []struct {
		from int
		want []api.Distance
	}{
		{1, []api.Distance{{Router: 1}, {Router: 2, Cost: 9}, {Router: 5, Cost: 5}}},
		{2, []api.Distance{{Router: 1, Cost: 3}, {Router: 2}, {Router: 5, Cost: 2}}},
		{5, []api.Distance{{Router: 1, Cost: 1}, {Router: 2, Cost: 4}, {Router: 5}}},
		{3, []api.Distance{{Router: 3}, {Router: 6, Cost: 1}}},
		{4, []api.Distance{{Router: 4}}},
		{7, nil}, {0, nil}, {-1, nil},
	} {
		if got := shortest.Distances(n, c.from); !slices.Equal(got, c.want) {
			t.Errorf("Distances from %d are %v, want %v", c.from, got, c.want)
		}
	}
}

// P6.1: the greatest costs that a path can have.
func TestDistancesOfChain(t *testing.T) {
	n := chain(24, 1000, 1)
	there, back := shortest.Distances(n, 1), shortest.Distances(n, 24)
	if len(there) != 24 || len(back) != 24 {
		t.Fatalf("Distances are %v and %v", there, back)
	}
	for i := range 24 {
		if there[i] != (api.Distance{Router: i + 1, Cost: 1000 * i}) || back[i] != (api.Distance{Router: i + 1, Cost: 23 - i}) {
			t.Errorf("Distances have %v and %v", there[i], back[i])
		}
	}
}

// P6.2, P6.3, P6.4, P6.5: the chapter's example.
func TestExample(t *testing.T) {
	n := example()
	if l := shortest.Next(n, 1, 4); !slices.Equal(l, []int{2, 3}) {
		t.Errorf("Next is %v", l)
	}
	if l := shortest.Route(n, 1, 4); !slices.Equal(l, []int{2, 4}) {
		t.Errorf("Route is %v", l)
	}
	if p := shortest.Paths(n, 1, 4); p != 2 {
		t.Errorf("Paths is %d", p)
	}
	if !shortest.Uses(n, 1, 4, api.Hop{From: 1, To: 3}) || shortest.Uses(n, 1, 4, api.Hop{From: 3, To: 1}) {
		t.Error("Uses of 1-3 is wrong")
	}
	if shortest.Avoids(n, 1, 4, 2) {
		t.Error("Avoids of 2 is true")
	}
}

// P6.2, P6.3: examples of next routers and routes. Paths with equal costs may have different numbers of links, and a link may be dearer than a way around it, in one direction only.
func TestNextAndRouteKnown(t *testing.T) {
	around := of(3, way{1, 2, 1, 1}, way{1, 3, 3, 1}, way{2, 3, 1, 1})
	equal := of(3, way{1, 2, 1, 1}, way{1, 3, 2, 2}, way{2, 3, 1, 1})
	wide := of(7, way{1, 4, 1, 1}, way{1, 6, 1, 1}, way{2, 7, 1, 1}, way{3, 7, 1, 1}, way{4, 5, 1, 1}, way{5, 7, 1, 1}, way{2, 6, 1, 1}, way{3, 6, 1, 1})
	slices.SortFunc(wide.Links, func(l, m api.Link) int { return (l.A-m.A)*100 + l.B - m.B })
	for i, c := range []struct {
		n           api.Topology
		from, to    int
		next, route []int
	}{
		{around, 1, 3, []int{2}, []int{2, 3}},
		{around, 3, 1, []int{1}, []int{1}},
		{around, 2, 3, []int{3}, []int{3}},
		{equal, 1, 3, []int{2, 3}, []int{2, 3}},
		{equal, 3, 1, []int{1, 2}, []int{1}},
		{wide, 1, 7, []int{4, 6}, []int{4, 5, 7}},
		{wide, 7, 1, []int{2, 3, 5}, []int{2, 6, 1}},
		{wide, 6, 7, []int{2, 3}, []int{2, 7}},
		{wide, 1, 1, nil, nil},
		{wide, 8, 8, nil, nil},
		{wide, 1, 8, nil, nil},
		{wide, 8, 1, nil, nil},
		{evenly(4, [2]int{1, 2}, [2]int{3, 4}), 1, 3, nil, nil},
		{chain(4, 2, 3), 1, 4, []int{2}, []int{2, 3, 4}},
		{chain(4, 2, 3), 4, 1, []int{3}, []int{3, 2, 1}},
		{of(1), 1, 1, nil, nil},
	} {
		if got := shortest.Next(c.n, c.from, c.to); !slices.Equal(got, c.next) {
			t.Errorf("%d: Next from %d to %d is %v, want %v", i, c.from, c.to, got, c.next)
		}
		if got := shortest.Route(c.n, c.from, c.to); !slices.Equal(got, c.route) {
			t.Errorf("%d: Route from %d to %d is %v, want %v", i, c.from, c.to, got, c.route)
		}
	}
}

// P6.3: routers are compared as numbers, the first difference counts, and not how many routers there are.
func TestRouteLeast(t *testing.T) {
	n := api.Topology{Routers: []api.Router{{ID: 1}, {ID: 9}, {ID: 10}, {ID: 20}, {ID: 30}, {ID: 99}}, Links: []api.Link{
		{A: 1, B: 9, CostA: 1, CostB: 1}, {A: 1, B: 10, CostA: 1, CostB: 1}, {A: 1, B: 99, CostA: 3, CostB: 3},
		{A: 9, B: 30, CostA: 1, CostB: 1}, {A: 10, B: 20, CostA: 1, CostB: 1}, {A: 20, B: 99, CostA: 1, CostB: 1}, {A: 30, B: 99, CostA: 1, CostB: 1},
	}}
	if l := shortest.Route(n, 1, 99); !slices.Equal(l, []int{9, 30, 99}) {
		t.Errorf("Route from 1 to 99 is %v", l)
	}
	if l := shortest.Route(n, 99, 1); !slices.Equal(l, []int{1}) {
		t.Errorf("Route from 99 to 1 is %v", l)
	}
	if l := shortest.Next(n, 99, 1); !slices.Equal(l, []int{1, 20, 30}) {
		t.Errorf("Next from 99 to 1 is %v", l)
	}
}

// P6.4: examples of numbers of paths.
func TestPathsKnown(t *testing.T) {
	squares := of(7, way{1, 2, 1, 1}, way{1, 3, 1, 1}, way{2, 4, 1, 1}, way{3, 4, 1, 1}, way{4, 5, 1, 2}, way{4, 6, 1, 1}, way{5, 7, 1, 1}, way{6, 7, 1, 1})
	for i, c := range []struct {
		n              api.Topology
		from, to, want int
	}{
		{squares, 1, 7, 4}, {squares, 7, 1, 2}, {squares, 1, 4, 2}, {squares, 4, 7, 2}, {squares, 7, 4, 1}, {squares, 2, 3, 2},
		{squares, 5, 5, 1}, {squares, 8, 8, 0}, {squares, 1, 8, 0}, {squares, 8, 1, 0}, {squares, 0, 0, 0}, {squares, -1, -1, 0},
		{of(2), 1, 2, 0}, {of(2), 1, 1, 1}, {of(1), 1, 1, 1}, {api.Topology{}, 1, 1, 0},
		{chain(24, 1, 1), 1, 24, 1},
		{of(3, way{1, 2, 1, 1}, way{1, 3, 2, 1}, way{2, 3, 1, 1}), 1, 3, 2},
	} {
		if got := shortest.Paths(c.n, c.from, c.to); got != c.want {
			t.Errorf("%d: Paths from %d to %d is %d, want %d", i, c.from, c.to, got, c.want)
		}
	}
}

// P6.4: as many shortest paths as are known to be possible. They are fewer than the limit, so this number is exact.
func TestPathsMost(t *testing.T) {
	n := crowded()
	if len(n.Routers) != 24 || len(n.Links) != 60 || topology.Check(n) != api.OK {
		t.Fatalf("%v is not the topology", n)
	}
	if there, back := shortest.Paths(n, 1, 24), shortest.Paths(n, 24, 1); there != 427008 || back != 427008 {
		t.Errorf("Paths is %d and %d", there, back)
	}
}

// P6.4: examples of topologies with unique shortest paths, and with others.
func TestUniqueKnown(t *testing.T) {
	// In this square, only one pair has two shortest paths, and only in one direction.
	once := []way{{1, 2, 1, 1}, {1, 3, 1, 3}, {2, 4, 1, 2}, {3, 4, 1, 2}}
	never := slices.Clone(once)
	never[2].there = 2
	// Here it is not in the first component, and from the last router.
	behind := of(6, way{1, 2, 1, 1}, way{3, 4, 2, 3}, way{3, 5, 5, 1}, way{4, 6, 2, 9}, way{5, 6, 3, 11})
	for i, c := range []struct {
		n    api.Topology
		want bool
	}{
		{api.Topology{}, true}, {of(1), true}, {of(24), true}, {chain(24, 1, 1000), true}, {of(2, way{1, 2, 1, 1}), true},
		{example(), false}, {of(4, once...), false}, {of(4, never...), true}, {behind, false}, {crowded(), false},
		{evenly(3, [2]int{1, 2}, [2]int{1, 3}, [2]int{2, 3}), true},
		{evenly(5, [2]int{1, 2}, [2]int{1, 5}, [2]int{2, 3}, [2]int{3, 4}, [2]int{4, 5}), true},
	} {
		if got := shortest.Unique(c.n); got != c.want {
			t.Errorf("%d: Unique is %v", i, got)
		}
	}
}

// P6.5: examples of links and routers on paths, in a square with a link behind it, of which one half is dear in one direction.
func TestUsesAndAvoidsKnown(t *testing.T) {
	n := of(7, way{1, 2, 1, 1}, way{1, 3, 1, 1}, way{2, 4, 1, 1}, way{3, 4, 1, 2}, way{4, 5, 1, 1}, way{6, 7, 1, 1})
	hop := func(from, to int) api.Hop { return api.Hop{From: from, To: to} }
	for _, c := range []struct {
		from, to int
		h        api.Hop
		want     bool
	}{
		{1, 5, hop(1, 2), true}, {1, 5, hop(1, 3), true}, {1, 5, hop(3, 4), true}, {1, 5, hop(4, 5), true},
		{1, 5, hop(5, 4), false}, {1, 5, hop(4, 3), false}, {5, 1, hop(4, 2), true}, {5, 1, hop(4, 3), false}, {5, 1, hop(3, 1), false},
		{1, 2, hop(1, 2), true}, {1, 2, hop(2, 1), false}, {1, 2, hop(2, 4), false}, {2, 4, hop(1, 2), false}, {1, 4, hop(4, 5), false},
		// No such links, though the costs would fit; no path at all; links in another component.
		{1, 5, hop(1, 4), false}, {1, 5, hop(2, 5), false}, {1, 5, hop(2, 2), false}, {1, 5, hop(1, 9), false}, {1, 5, hop(9, 5), false}, {1, 5, hop(0, 0), false},
		{1, 7, hop(6, 7), false}, {1, 7, hop(1, 2), false}, {1, 2, hop(6, 7), false}, {6, 7, hop(1, 2), false}, {6, 7, hop(6, 7), true},
		{1, 1, hop(1, 2), false}, {1, 1, hop(2, 1), false}, {1, 1, hop(1, 1), false}, {9, 9, hop(9, 9), false}, {9, 1, hop(1, 2), false}, {1, 9, hop(1, 2), false},
	} {
		if got := shortest.Uses(n, c.from, c.to, c.h); got != c.want {
			t.Errorf("Uses from %d to %d of %v is %v", c.from, c.to, c.h, got)
		}
	}
	for _, c := range []struct {
		from, to, router int
		want             bool
	}{
		{1, 5, 2, false}, {1, 5, 3, false}, {1, 5, 4, false}, {1, 5, 1, false}, {1, 5, 5, false}, {1, 5, 6, true}, {1, 5, 9, true}, {1, 5, 0, true},
		{5, 1, 3, true}, {5, 1, 2, false}, {1, 2, 4, true}, {1, 4, 5, true}, {1, 1, 1, false}, {1, 1, 2, true}, {1, 1, 9, true},
		{1, 7, 2, false}, {1, 7, 9, false}, {1, 7, 7, false}, {9, 9, 9, false}, {9, 9, 1, false}, {9, 1, 2, false}, {1, 9, 2, false}, {6, 7, 1, true},
	} {
		if got := shortest.Avoids(n, c.from, c.to, c.router); got != c.want {
			t.Errorf("Avoids from %d to %d of %d is %v", c.from, c.to, c.router, got)
		}
	}
}

// P6.1, P6.2, P6.3, P6.4: small topologies, against all their paths.
func TestAgainstAllPaths(t *testing.T) {
	for _, n := range small() {
		costs := linkCosts(n)
		unique := true
		for _, from := range numbers(n) {
			paths := pathsFrom(n, from)
			var distances []api.Distance
			for to := 1; to <= 99; to++ {
				if least, cost := shortestOf(costs, paths, to); len(least) > 0 {
					distances = append(distances, api.Distance{Router: to, Cost: cost})
					unique = unique && len(least) == 1
				}
			}
			if got := shortest.Distances(n, from); !slices.Equal(got, distances) {
				t.Errorf("%v: Distances from %d are %v, want %v", n, from, got, distances)
			}
			for _, to := range numbers(n) {
				least, cost := shortestOf(costs, paths, to)
				comparePair(t, n, from, to, least, cost)
			}
		}
		if got := shortest.Unique(n); got != unique {
			t.Errorf("%v: Unique is %v", n, got)
		}
	}
}

// comparePair compares what is said of a pair of routers with the list of its shortest paths.
func comparePair(t *testing.T, n api.Topology, from, to int, least [][]int, cost int) {
	var next, route []int
	for _, path := range least {
		if len(path) > 1 {
			next = append(next, path[1])
			if route == nil || slices.Compare(path[1:], route) < 0 {
				route = path[1:]
			}
		}
	}
	slices.Sort(next)
	next = slices.Compact(next)
	if got, ok := shortest.Cost(n, from, to); got != cost || ok != (len(least) > 0) {
		t.Errorf("%v: Cost from %d to %d is %d, %v, want %d", n, from, to, got, ok, cost)
	}
	if got := shortest.Next(n, from, to); !slices.Equal(got, next) {
		t.Errorf("%v: Next from %d to %d is %v, want %v", n, from, to, got, next)
	}
	if got := shortest.Route(n, from, to); !slices.Equal(got, route) {
		t.Errorf("%v: Route from %d to %d is %v, want %v", n, from, to, got, route)
	}
	if got := shortest.Paths(n, from, to); got != len(least) {
		t.Errorf("%v: Paths from %d to %d is %d, want %d", n, from, to, got, len(least))
	}
}

// P6.5: small topologies, against all their paths.
func TestUsesAndAvoidsAgainstAllPaths(t *testing.T) {
	for _, n := range small() {
		costs := linkCosts(n)
		all := append(numbers(n)[len(far):], 0, math.MinInt)
		for _, from := range all {
			paths := pathsFrom(n, from)
			for _, to := range all {
				least, _ := shortestOf(costs, paths, to)
				compareUses(t, n, from, to, least, all)
			}
		}
	}
}

// compareUses compares what is said of links and routers on paths with the list of the shortest paths.
func compareUses(t *testing.T, n api.Topology, from, to int, least [][]int, all []int) {
	hops, passed := map[api.Hop]bool{}, map[int]bool{}
	for _, path := range least {
		for i, router := range path {
			passed[router] = true
			if i > 0 {
				hops[api.Hop{From: path[i-1], To: router}] = true
			}
		}
	}
	for _, a := range all {
		if got := shortest.Avoids(n, from, to, a); got != (len(least) > 0 && !passed[a]) {
			t.Errorf("%v: Avoids from %d to %d of %d is %v", n, from, to, a, got)
		}
		for _, b := range all {
			if got := shortest.Uses(n, from, to, api.Hop{From: a, To: b}); got != hops[api.Hop{From: a, To: b}] {
				t.Errorf("%v: Uses from %d to %d of %d-%d is %v", n, from, to, a, b, got)
			}
		}
	}
}

// allCosts returns the costs of all pairs of routers: paths are put together at each router in turn.
func allCosts(t api.Topology) map[api.Hop]int {
	costs := linkCosts(t)
	for _, r := range t.Routers {
		costs[api.Hop{From: r.ID, To: r.ID}] = 0
	}
	for _, m := range t.Routers {
		for _, a := range t.Routers {
			before, reached := costs[api.Hop{From: a.ID, To: m.ID}]
			for _, b := range t.Routers {
				behind, goesOn := costs[api.Hop{From: m.ID, To: b.ID}]
				known, exists := costs[api.Hop{From: a.ID, To: b.ID}]
				if reached && goesOn && (!exists || before+behind < known) {
					costs[api.Hop{From: a.ID, To: b.ID}] = before + behind
				}
			}
		}
	}
	return costs
}

// walks returns how many paths of exactly this cost lead from one router to another one, by the last link of each.
func walks(links, memory map[api.Hop]int, all map[api.Hop]int, routers []api.Router, from, to int) int {
	pair := api.Hop{From: from, To: to}
	if known, ok := memory[pair]; ok {
		return known
	}
	count := 0
	if from == to {
		count = 1
	}
	for _, r := range routers {
		last, exists := links[api.Hop{From: r.ID, To: to}]
		before, reached := all[api.Hop{From: from, To: r.ID}]
		if exists && reached && before+last == all[pair] {
			count += walks(links, memory, all, routers, from, r.ID)
		}
	}
	memory[pair] = count
	return count
}

// P6.1, P6.2, P6.3, P6.4, P6.6: great topologies, against the costs of all pairs. The Route is followed: each step is to the least of the next routers, and costs what it has to.
func TestGreat(t *testing.T) {
	for _, n := range great() {
		links, all, memory := linkCosts(n), allCosts(n), map[api.Hop]int{}
		unique := true
		for _, f := range n.Routers {
			from := f.ID
			var distances []api.Distance
			for _, r := range n.Routers {
				to := r.ID
				cost, connected := all[api.Hop{From: from, To: to}]
				if connected {
					distances = append(distances, api.Distance{Router: to, Cost: cost})
				}
				var next []int
				for _, m := range n.Routers {
					link, exists := links[api.Hop{From: from, To: m.ID}]
					rest, goesOn := all[api.Hop{From: m.ID, To: to}]
					if exists && goesOn && link+rest == cost {
						next = append(next, m.ID)
					}
				}
				if got := shortest.Next(n, from, to); !slices.Equal(got, next) {
					t.Errorf("%v: Next from %d to %d is %v, want %v", n, from, to, got, next)
				}
				followRoute(t, n, from, to, next, links, all)
				count := 0
				if connected {
					count = walks(links, memory, all, n.Routers, from, to)
				}
				unique = unique && count <= 1
				if got := shortest.Paths(n, from, to); got != count {
					t.Errorf("%v: Paths from %d to %d is %d, want %d", n, from, to, got, count)
				}
			}
			if got := shortest.Distances(n, from); !slices.Equal(got, distances) {
				t.Errorf("%v: Distances from %d are %v, want %v", n, from, got, distances)
			}
		}
		if got := shortest.Unique(n); got != unique {
			t.Errorf("%v: Unique is %v", n, got)
		}
	}
}

// followRoute goes along the Route from one router to another one.
func followRoute(t *testing.T, n api.Topology, from, to int, next []int, links, all map[api.Hop]int) {
	route := shortest.Route(n, from, to)
	if len(next) == 0 {
		if len(route) != 0 {
			t.Errorf("%v: Route from %d to %d is %v", n, from, to, route)
		}
		return
	}
	if len(route) == 0 || route[0] != next[0] || route[len(route)-1] != to {
		t.Errorf("%v: Route from %d to %d is %v", n, from, to, route)
		return
	}
	if cost, exists := pathCost(links, append([]int{from}, route...)); !exists || cost != all[api.Hop{From: from, To: to}] {
		t.Errorf("%v: Route from %d to %d is %v, which costs %d", n, from, to, route, cost)
	}
}

// P6.5: great topologies, against the costs of all pairs.
func TestUsesAndAvoidsGreat(t *testing.T) {
	next := random(4)
	for _, n := range great() {
		links, all := linkCosts(n), allCosts(n)
		any := func() int { return n.Routers[next(len(n.Routers))].ID }
		for range 30 {
			from, to, router := any(), any(), any()
			cost, connected := all[api.Hop{From: from, To: to}]
			before, reached := all[api.Hop{From: from, To: router}]
			behind, goesOn := all[api.Hop{From: router, To: to}]
			on := reached && goesOn && before+behind == cost
			if got := shortest.Avoids(n, from, to, router); got != (connected && !on) {
				t.Errorf("%v: Avoids from %d to %d of %d is %v", n, from, to, router, got)
			}
			for _, r := range n.Routers {
				link, exists := links[api.Hop{From: router, To: r.ID}]
				rest, ends := all[api.Hop{From: r.ID, To: to}]
				want := exists && reached && ends && before+link+rest == cost
				if got := shortest.Uses(n, from, to, api.Hop{From: router, To: r.ID}); got != want {
					t.Errorf("%v: Uses from %d to %d of %d-%d is %v", n, from, to, router, r.ID, got)
				}
			}
		}
	}
}

// P6.6: costs satisfy the triangle inequality.
func TestTriangles(t *testing.T) {
	for _, n := range small() {
		for _, a := range n.Routers {
			for _, b := range n.Routers {
				for _, c := range n.Routers {
					first, reached := shortest.Cost(n, a.ID, b.ID)
					second, goesOn := shortest.Cost(n, b.ID, c.ID)
					whole, connected := shortest.Cost(n, a.ID, c.ID)
					if reached && goesOn && (!connected || whole > first+second) {
						t.Errorf("%v: from %d to %d costs %d, over %d %d and %d", n, a.ID, c.ID, whole, b.ID, first, second)
					}
				}
			}
		}
	}
}

// P6.6: each end of a Route is a Route itself, and it costs what Cost says.
func TestEndsOfRoutes(t *testing.T) {
	for _, n := range append(small(), great()[:20]...) {
		links := linkCosts(n)
		for _, a := range n.Routers {
			for _, b := range n.Routers {
				route := shortest.Route(n, a.ID, b.ID)
				for i, router := range route {
					if rest := shortest.Route(n, router, b.ID); !slices.Equal(rest, route[i+1:]) {
						t.Errorf("%v: Route from %d to %d is %v, that from %d is %v", n, a.ID, b.ID, route, router, rest)
					}
				}
				cost, connected := shortest.Cost(n, a.ID, b.ID)
				if got, exists := pathCost(links, append([]int{a.ID}, route...)); connected && (!exists || got != cost) {
					t.Errorf("%v: Route from %d to %d is %v and costs %d, not %d", n, a.ID, b.ID, route, got, cost)
				}
			}
		}
	}
}

// P6.6: a neighbour is in Next exactly if its link and the cost from it add up; the shortest paths from it never lead back.
func TestNextNeverLeadsBack(t *testing.T) {
	for _, n := range append(small(), great()[:20]...) {
		for _, a := range n.Routers {
			for _, b := range n.Routers {
				next := shortest.Next(n, a.ID, b.ID)
				whole, _ := shortest.Cost(n, a.ID, b.ID)
				for _, m := range topology.Neighbours(n, a.ID) {
					link, _ := topology.Cost(n, a.ID, m)
					rest, connected := shortest.Cost(n, m, b.ID)
					if slices.Contains(next, m) != (connected && link+rest == whole) {
						t.Errorf("%v: Next from %d to %d is %v: over %d it costs %d, not %d", n, a.ID, b.ID, next, m, link+rest, whole)
					}
				}
				for _, m := range next {
					if _, linked := topology.Cost(n, a.ID, m); !linked || !shortest.Avoids(n, m, b.ID, a.ID) {
						t.Errorf("%v: over %d, shortest paths from %d to %d lead back", n, m, a.ID, b.ID)
					}
				}
			}
		}
	}
}

// P6.1: it does not matter whether routers are capable, nor what links carry.
func TestCapableOrNot(t *testing.T) {
	n := meshed(random(5), 12, 8, 3, 3)
	changed := api.Topology{Routers: slices.Clone(n.Routers), Links: slices.Clone(n.Links)}
	for i := range changed.Routers {
		changed.Routers[i].Capable = !changed.Routers[i].Capable
	}
	for i := range changed.Links {
		changed.Links[i].Capacity = 1000 - changed.Links[i].Capacity
	}
	for _, a := range n.Routers {
		if l, m := shortest.Distances(n, a.ID), shortest.Distances(changed, a.ID); !slices.Equal(l, m) {
			t.Errorf("Distances from %d are %v and %v", a.ID, l, m)
		}
		for _, b := range n.Routers {
			l, m := shortest.Route(n, a.ID, b.ID), shortest.Route(changed, a.ID, b.ID)
			if !slices.Equal(l, m) || shortest.Paths(n, a.ID, b.ID) != shortest.Paths(changed, a.ID, b.ID) {
				t.Errorf("Route from %d to %d is %v and %v", a.ID, b.ID, l, m)
			}
		}
	}
}

// P6.1, P6.2, P6.3, P6.4, P6.5: what is asked of a topology that is not valid.
func TestInvalid(t *testing.T) {
	for i, n := range invalid() {
		if topology.Check(n) == api.OK {
			t.Errorf("%d is valid", i)
		}
		if shortest.Unique(n) {
			t.Errorf("%d: Unique is true", i)
		}
		for from := 0; from <= 4; from++ {
			if l := shortest.Distances(n, from); len(l) != 0 {
				t.Errorf("%d: Distances from %d are %v", i, from, l)
			}
			for to := 0; to <= 4; to++ {
				if c, ok := shortest.Cost(n, from, to); c != 0 || ok {
					t.Errorf("%d: Cost from %d to %d is %d, %v", i, from, to, c, ok)
				}
				if l, m := shortest.Next(n, from, to), shortest.Route(n, from, to); len(l) != 0 || len(m) != 0 {
					t.Errorf("%d: Next and Route from %d to %d are %v and %v", i, from, to, l, m)
				}
				if p := shortest.Paths(n, from, to); p != 0 {
					t.Errorf("%d: Paths from %d to %d is %d", i, from, to, p)
				}
				for other := 0; other <= 4; other++ {
					if shortest.Uses(n, from, to, api.Hop{From: from, To: other}) || shortest.Avoids(n, from, to, other) {
						t.Errorf("%d: Uses or Avoids from %d to %d is true with %d", i, from, to, other)
					}
				}
			}
		}
	}
}

// R5, R6: all functions leave their arguments as they are, and answer the same again, in memory of their own.
func TestArgumentsStay(t *testing.T) {
	for _, n := range append(append(small(), great()[:12]...), invalid()[:17]...) {
		kept := api.Topology{Routers: slices.Clone(n.Routers), Links: slices.Clone(n.Links)}
		for from := 0; from <= 5; from++ {
			distances, next, route := shortest.Distances(n, from), shortest.Next(n, from, 1), shortest.Route(n, from, 1)
			first := [][]int{slices.Clone(next), slices.Clone(route)}
			before := slices.Clone(distances)
			for _, l := range [][]int{next, route} {
				for i := range l {
					l[i] = -1
				}
			}
			for i := range distances {
				distances[i] = api.Distance{Router: -1}
			}
			shortest.Cost(n, from, 1)
			shortest.Paths(n, from, 1)
			shortest.Unique(n)
			shortest.Uses(n, from, 1, api.Hop{From: 1, To: 2})
			shortest.Avoids(n, from, 1, 2)
			if !slices.Equal(shortest.Next(n, from, 1), first[0]) || !slices.Equal(shortest.Route(n, from, 1), first[1]) || !slices.Equal(shortest.Distances(n, from), before) {
				t.Errorf("%v: the answers have changed", n)
			}
		}
		if !slices.Equal(n.Routers, kept.Routers) || !slices.Equal(n.Links, kept.Links) {
			t.Errorf("%v has become %v", kept, n)
		}
	}
}
