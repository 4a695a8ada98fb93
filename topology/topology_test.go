package topology_test

import (
	"math"
	"slices"
	"testing"

	"bitcast/api"
	"bitcast/topology"
)

// far has numbers that are out of each range, some of which seem to be in one if only their lowest bits are looked at.
var far = []int{math.MinInt, math.MinInt + 1, -1 << 32, -1000, -1, 1 << 20, 1 << 32, 1<<32 + 1, math.MaxInt}

// random returns a fixed sequence of numbers below n, so that each run of the tests is the same.
func random(seed uint64) func(n int) int {
	return func(n int) int {
		seed = seed*6364136223846793005 + 1442695040888963407
		return int(seed >> 33 % uint64(n))
	}
}

// routers returns capable routers with these numbers.
func routers(ids ...int) []api.Router {
	l := make([]api.Router, len(ids))
	for i, id := range ids {
		l[i] = api.Router{ID: id, Capable: true}
	}
	return l
}

// upTo returns the numbers from 1 to n.
func upTo(n int) []int {
	l := make([]int, n)
	for i := range l {
		l[i] = i + 1
	}
	return l
}

// of returns the topology of the routers 1 to n with these links, which differ in their numbers.
func of(n int, ends ...[2]int) api.Topology {
	t := api.Topology{Routers: routers(upTo(n)...)}
	for i, e := range ends {
		t.Links = append(t.Links, api.Link{A: e[0], B: e[1], CostA: 10 + i, CostB: 200 + i, Capacity: 400 + i})
	}
	return t
}

// example returns the topology of the chapter's example.
func example() api.Topology { return of(4, [2]int{1, 2}, [2]int{2, 3}, [2]int{2, 4}, [2]int{3, 4}) }

// meshed returns a topology of n mixed routers in which each pair has a link with one chance in thin, as far as there may be links.
func meshed(next func(int) int, n, thin int) api.Topology {
	var t api.Topology
	for id := 1; id <= 99; id++ {
		// Each number is taken with the chance that leaves exactly n of them.
		if next(100-id) < n-len(t.Routers) {
			t.Routers = append(t.Routers, api.Router{ID: id, Capable: next(2) == 0})
		}
	}
	for i, a := range t.Routers {
		for _, b := range t.Routers[i+1:] {
			if next(thin) == 0 && len(t.Links) < 60 {
				t.Links = append(t.Links, api.Link{A: a.ID, B: b.ID, CostA: 1 + next(1000), CostB: 1 + next(1000), Capacity: next(1001)})
			}
		}
	}
	return t
}

// greatest returns a topology with as many routers and links as there may be, and with the ends of all ranges.
func greatest() api.Topology {
	t := meshed(random(1), 24, 3)
	t.Routers[0].ID, t.Routers[23].ID = 1, 99
	t.Links = nil
	for i, a := range t.Routers {
		for _, b := range t.Routers[i+1:] {
			if len(t.Links) < 60 {
				t.Links = append(t.Links, api.Link{A: a.ID, B: b.ID, CostA: 1000, CostB: 1, Capacity: 1000})
			}
		}
	}
	for i := range t.Links {
		if i%3 == 0 {
			t.Links[i].CostA, t.Links[i].CostB, t.Links[i].Capacity = 1, 1000, 0
		}
	}
	return t
}

// topologies returns valid topologies: small and great ones, connected and not.
func topologies() []api.Topology {
	next := random(2)
	l := []api.Topology{
		{}, {Routers: []api.Router{}, Links: []api.Link{}}, of(1), of(2), of(2, [2]int{1, 2}), of(24), {Routers: routers(1, 99)},
		{Routers: routers(1, 99), Links: []api.Link{{A: 1, B: 99, CostA: 1000, CostB: 1}}},
		example(), greatest(),
		of(5, [2]int{1, 2}, [2]int{2, 3}, [2]int{3, 4}, [2]int{4, 5}),
		of(5, [2]int{1, 2}, [2]int{1, 5}, [2]int{2, 3}, [2]int{3, 4}, [2]int{4, 5}),
		of(5, [2]int{1, 5}, [2]int{2, 5}, [2]int{3, 4}),
	}
	for n := 1; n <= 24; n++ {
		for thin := 1; thin <= 20; thin += 3 {
			l = append(l, meshed(next, n, thin))
		}
	}
	return l
}

// copied returns an equal topology in memory of its own.
func copied(t api.Topology) api.Topology {
	return api.Topology{Routers: slices.Clone(t.Routers), Links: slices.Clone(t.Links)}
}

// equal reports whether two topologies have the same routers and links.
func equal(t, u api.Topology) bool {
	return slices.Equal(t.Routers, u.Routers) && slices.Equal(t.Links, u.Links)
}

// empty reports whether a topology has nothing.
func empty(t api.Topology) bool { return len(t.Routers) == 0 && len(t.Links) == 0 }

// equalLists reports whether two lists of lists are equal.
func equalLists(l, m [][]int) bool {
	return slices.EqualFunc(l, m, func(a, b []int) bool { return slices.Equal(a, b) })
}

// without returns a topology with a router or a link left out.
func withoutRouter(t api.Topology, router int) api.Topology {
	t = copied(t)
	t.Routers = slices.DeleteFunc(t.Routers, func(r api.Router) bool { return r.ID == router })
	t.Links = slices.DeleteFunc(t.Links, func(l api.Link) bool { return l.A == router || l.B == router })
	return t
}

func withoutLink(t api.Topology, a, b int) api.Topology {
	t = copied(t)
	t.Links = slices.DeleteFunc(t.Links, func(l api.Link) bool { return l.A == a && l.B == b || l.A == b && l.B == a })
	return t
}

// reached returns for each pair of numbers whether there is a path: paths are put together at each router in turn.
func reached(t api.Topology) *[100][100]bool {
	var path [100][100]bool
	for _, r := range t.Routers {
		path[r.ID][r.ID] = true
	}
	for _, l := range t.Links {
		path[l.A][l.B], path[l.B][l.A] = true, true
	}
	for _, m := range t.Routers {
		for _, a := range t.Routers {
			for _, b := range t.Routers {
				if path[a.ID][m.ID] && path[m.ID][b.ID] {
					path[a.ID][b.ID] = true
				}
			}
		}
	}
	return &path
}

// defect is a way to make a topology not valid.
type defect struct {
	name string
	want api.Errno
	make func(t *api.Topology)
}

// defects returns the ways in which the chapter says that a topology is not valid, in its order. Each is at places of its own, so that all of them can be combined in the topology that sound returns.
func defects() []defect {
	return []defect{
		{"routers", api.ErrLimit, func(t *api.Topology) {
			for len(t.Routers) <= 24 {
				t.Routers = append(t.Routers, api.Router{ID: t.Routers[len(t.Routers)-1].ID + 1})
			}
		}},
		{"links", api.ErrLimit, func(t *api.Topology) {
			for len(t.Links) <= 60 {
				t.Links = append(t.Links, t.Links[len(t.Links)-1])
				t.Links[len(t.Links)-1].A++
			}
		}},
		{"ID", api.ErrRange, func(t *api.Topology) { t.Routers[0].ID = 0 }},
		{"order of routers", api.ErrOrder, func(t *api.Topology) { t.Routers[2], t.Routers[3] = t.Routers[3], t.Routers[2] }},
		{"cost", api.ErrRange, func(t *api.Topology) { t.Links[0].CostB = 0 }},
		{"end", api.ErrUnknown, func(t *api.Topology) { t.Links[1].B = 90 }},
		{"ends", api.ErrConflict, func(t *api.Topology) { t.Links[2].B = t.Links[2].A }},
		{"order of links", api.ErrOrder, func(t *api.Topology) { t.Links[3], t.Links[4] = t.Links[4], t.Links[3] }},
	}
}

// sound returns a valid topology to which all defects can be given: each changes something that no other one looks at.
func sound() api.Topology {
	return api.Topology{
		Routers: routers(1, 2, 3, 4, 5, 6, 7, 8),
		Links: []api.Link{
			{A: 2, B: 4, CostA: 1, CostB: 1}, {A: 3, B: 5, CostA: 1, CostB: 1}, {A: 4, B: 6, CostA: 1, CostB: 1},
			{A: 5, B: 6, CostA: 1, CostB: 1}, {A: 5, B: 7, CostA: 1, CostB: 1},
		},
	}
}

// invalid returns topologies that are not valid, for all reasons.
func invalid() []api.Topology {
	l := []api.Topology{
		{Routers: make([]api.Router, 100000)}, {Links: make([]api.Link, 100000)}, {Links: make([]api.Link, 1)},
		{Routers: []api.Router{{ID: 7, Capable: true}, {ID: 7, Capable: true}}},
		{Routers: routers(2, 1), Links: []api.Link{{A: 1, B: 2, CostA: 1, CostB: 1}}},
		{Routers: routers(1, 2), Links: []api.Link{{A: 2, B: 1, CostA: 1, CostB: 1}}},
		{Routers: routers(1, 2), Links: []api.Link{{A: 2, B: 2, CostA: 1, CostB: 1}}},
	}
	for _, d := range defects() {
		t := sound()
		d.make(&t)
		l = append(l, t)
	}
	return l
}

// check tells of a topology for which Check has another answer.
func check(t *testing.T, what string, n api.Topology, want api.Errno) {
	t.Helper()
	if e := topology.Check(n); e != want {
		t.Errorf("%s: Check(%v) is %d, want %d", what, n, e, want)
	}
}

// P5.1: valid topologies.
func TestCheckValid(t *testing.T) {
	for _, n := range topologies() {
		check(t, "valid", n, api.OK)
	}
	check(t, "sound", sound(), api.OK)
}

// P5.1: the limits of both lists, before everything else.
func TestCheckLimits(t *testing.T) {
	all := of(24)
	for a := 1; a <= 24 && len(all.Links) < 60; a++ {
		for b := a + 1; b <= 24 && len(all.Links) < 60; b++ {
			all.Links = append(all.Links, api.Link{A: a, B: b, CostA: 1, CostB: 1})
		}
	}
	check(t, "24 routers, 60 links", all, api.OK)
	more := copied(all)
	more.Routers = append(more.Routers, api.Router{ID: 25})
	check(t, "25 routers", more, api.ErrLimit)
	more = copied(all)
	more.Links = append(more.Links, api.Link{A: 4, B: 24, CostA: 1, CostB: 1})
	check(t, "61 links", more, api.ErrLimit)
	check(t, "many routers", api.Topology{Routers: make([]api.Router, 100000)}, api.ErrLimit)
	check(t, "many links", api.Topology{Links: make([]api.Link, 100000)}, api.ErrLimit)
}

// P5.1: each number of each router.
func TestCheckRouters(t *testing.T) {
	for _, n := range []int{1, 2, 24} {
		for at := range n {
			for _, id := range append([]int{0, 100, 101, 128, 129, 257}, far...) {
				bad := of(n)
				bad.Routers[at].ID = id
				check(t, "ID", bad, api.ErrRange)
			}
		}
		for at := 1; at < n; at++ {
			bad := of(n)
			bad.Routers[at].ID = at
			check(t, "equal", bad, api.ErrOrder)
			bad = of(n)
			bad.Routers[at-1].ID, bad.Routers[at].ID = at+1, at
			check(t, "changed places", bad, api.ErrOrder)
			bad = of(n)
			bad.Routers[at-1].ID = 99
			check(t, "too great", bad, api.ErrOrder)
		}
	}
	check(t, "ends", api.Topology{Routers: routers(1, 99)}, api.OK)
	check(t, "equal, not equally capable", api.Topology{Routers: []api.Router{{ID: 4}, {ID: 4, Capable: true}}}, api.ErrOrder)
}

// P5.1: each number of each link.
func TestCheckLinkNumbers(t *testing.T) {
	base := greatest()
	for at := range base.Links {
		for field := range 3 {
			for _, x := range append([]int{0, 1, 2, 999, 1000, 1001, 1024, 1025, 2000}, far...) {
				n := copied(base)
				l := &n.Links[at]
				*[]*int{&l.CostA, &l.CostB, &l.Capacity}[field] = x
				want := api.ErrRange
				if x >= 1 && x <= 1000 || x == 0 && field == 2 {
					want = api.OK
				}
				check(t, "numbers of a link", n, want)
			}
		}
	}
}

// P5.1: ends of links that are no routers.
func TestCheckUnknown(t *testing.T) {
	base := api.Topology{Routers: routers(2, 4, 6), Links: []api.Link{{A: 2, B: 4, CostA: 1, CostB: 1}, {A: 2, B: 6, CostA: 1, CostB: 1}, {A: 4, B: 6, CostA: 1, CostB: 1}}}
	check(t, "base", base, api.OK)
	for at := range base.Links {
		for _, x := range append([]int{0, 1, 3, 5, 7, 99, 100, 130, 258}, far...) {
			n := copied(base)
			n.Links[at].A = x
			check(t, "A", n, api.ErrUnknown)
			n = copied(base)
			n.Links[at].B = x
			check(t, "B", n, api.ErrUnknown)
			n.Links[at].A = x
			check(t, "A and B", n, api.ErrUnknown)
		}
	}
	check(t, "no routers", api.Topology{Links: []api.Link{{A: 1, B: 2, CostA: 1, CostB: 1}}}, api.ErrUnknown)
}

// P5.1: links whose ends are equal or in the wrong order, in lists that are ascending.
func TestCheckEnds(t *testing.T) {
	for _, ends := range [][][2]int{
		{{1, 1}}, {{3, 3}}, {{2, 1}}, {{3, 1}},
		{{1, 1}, {1, 2}, {2, 3}}, {{1, 2}, {2, 2}, {2, 3}}, {{1, 2}, {2, 3}, {3, 3}}, {{1, 2}, {1, 3}, {3, 1}}, {{1, 2}, {2, 1}, {2, 3}},
	} {
		check(t, "ends", of(3, ends...), api.ErrConflict)
	}
}

// P5.1: links that are not ascending by A, then B.
func TestCheckOrderOfLinks(t *testing.T) {
	for _, ends := range [][][2]int{
		{{1, 2}, {1, 2}}, {{1, 3}, {1, 2}}, {{2, 3}, {1, 2}}, {{2, 3}, {1, 4}}, {{2, 4}, {1, 4}},
		{{1, 2}, {2, 3}, {2, 3}}, {{1, 2}, {2, 4}, {2, 3}}, {{1, 2}, {3, 4}, {2, 3}}, {{1, 3}, {1, 2}, {2, 3}}, {{1, 2}, {1, 2}, {2, 3}},
	} {
		check(t, "order", of(4, ends...), api.ErrOrder)
	}
	for _, ends := range [][][2]int{
		{{1, 2}, {1, 3}}, {{1, 4}, {2, 3}}, {{1, 2}, {3, 4}}, {{1, 3}, {2, 3}}, {{1, 4}, {2, 3}, {2, 4}, {3, 4}},
	} {
		check(t, "ascending", of(4, ends...), api.OK)
	}
}

// P5.1: with several defects, the first one in the chapter's order counts.
func TestCheckFirst(t *testing.T) {
	all := defects()
	for set := range 1 << len(all) {
		n, want := sound(), api.OK
		for i := len(all) - 1; i >= 0; i-- {
			if set>>i&1 == 1 {
				all[i].make(&n)
				want = all[i].want
			}
		}
		check(t, "defects", n, want)
	}
}

// P5.1: all elements are looked at for one error before the next one.
func TestCheckLastElement(t *testing.T) {
	n := sound()
	n.Routers[0].ID, n.Routers[1].ID, n.Routers[7].ID = 2, 2, 100
	check(t, "an ID behind a wrong order", n, api.ErrRange)
	n = sound()
	n.Links[0].A, n.Links[1].B, n.Links[4].Capacity = 0, 1, 1001
	check(t, "a capacity behind an unknown end", n, api.ErrRange)
	n = sound()
	n.Links[0].A, n.Links[1].B, n.Links[4].B = 7, 1, 9
	check(t, "an unknown end behind wrong ones", n, api.ErrUnknown)
	n = sound()
	n.Links[0], n.Links[1], n.Links[4].B = n.Links[1], n.Links[0], 5
	check(t, "wrong ends behind a wrong order", n, api.ErrConflict)
}

// defined returns what the chapter says of a topology that Check is asked for, sentence by sentence.
func defined(t api.Topology) api.Errno {
	if len(t.Routers) > 24 || len(t.Links) > 60 {
		return api.ErrLimit
	}
	var range1, order1, range2, unknown, conflict, order2 bool
	known := map[int]bool{}
	for i, r := range t.Routers {
		known[r.ID] = true
		range1 = range1 || r.ID < 1 || r.ID > 99
		order1 = order1 || i > 0 && t.Routers[i-1].ID >= r.ID
	}
	for i, l := range t.Links {
		range2 = range2 || l.CostA < 1 || l.CostB < 1 || l.CostA > 1000 || l.CostB > 1000 || l.Capacity < 0 || l.Capacity > 1000
		unknown = unknown || !known[l.A] || !known[l.B]
		conflict = conflict || l.A >= l.B
		if i > 0 {
			before := t.Links[i-1]
			order2 = order2 || before.A > l.A || before.A == l.A && before.B >= l.B
		}
	}
	for _, c := range []struct {
		holds bool
		e     api.Errno
	}{{range1, api.ErrRange}, {order1, api.ErrOrder}, {range2, api.ErrRange}, {unknown, api.ErrUnknown}, {conflict, api.ErrConflict}, {order2, api.ErrOrder}} {
		if c.holds {
			return c.e
		}
	}
	return api.OK
}

// P5.1: mixed topologies with few mixed changes, against the chapter's sentences.
func TestCheckAny(t *testing.T) {
	next := random(3)
	numbers := append([]int{0, 1, 2, 3, 50, 98, 99, 100, 999, 1000, 1001}, far...)
	seen := map[api.Errno]int{}
	for range 30000 {
		n := meshed(next, 1+next(24), 1+next(10))
		for range next(3) {
			r, x := &n.Routers[next(len(n.Routers))], numbers[next(len(numbers))]
			if next(2) == 0 && len(n.Links) > 0 {
				l := &n.Links[next(len(n.Links))]
				if next(2) == 0 {
					x = r.ID
				}
				*[]*int{&l.A, &l.B, &l.CostA, &l.CostB, &l.Capacity}[next(5)] = x
			} else if next(3) == 0 {
				r.ID = x
			}
		}
		want := defined(n)
		seen[want]++
		check(t, "any", n, want)
	}
	for _, e := range []api.Errno{api.OK, api.ErrRange, api.ErrOrder, api.ErrUnknown, api.ErrConflict} {
		if seen[e] < 100 {
			t.Errorf("only %d topologies have the error %d", seen[e], e)
		}
	}
}

// P5.2, P5.3, P5.4, P5.5: what is asked of a topology that is not valid.
func TestInvalid(t *testing.T) {
	for i, n := range invalid() {
		if topology.Check(n) == api.OK {
			t.Errorf("%d is valid", i)
		}
		for a := 0; a <= 9; a++ {
			if topology.Has(n, a) || topology.Capable(n, a) {
				t.Errorf("%d: Has or Capable is true for %d", i, a)
			}
			if l := topology.Neighbours(n, a); len(l) != 0 {
				t.Errorf("%d: Neighbours of %d are %v", i, a, l)
			}
			for b := 0; b <= 9; b++ {
				if c, ok := topology.Cost(n, a, b); c != 0 || ok {
					t.Errorf("%d: Cost from %d to %d is %d, %v", i, a, b, c, ok)
				}
				if topology.Connected(n, a, b) {
					t.Errorf("%d: Connected is true for %d, %d", i, a, b)
				}
				if got, e := topology.Apply(n, api.Change{A: a, B: b, CostA: 5, CostB: 5}); e != api.ErrInvalid || !empty(got) {
					t.Errorf("%d: Apply to %d, %d is %v, %d", i, a, b, got, e)
				}
			}
			if got := topology.Without(n, api.Failure{Routers: []int{a}}); !empty(got) {
				t.Errorf("%d: Without %d is %v", i, a, got)
			}
		}
		if l, m, c := topology.Components(n), topology.Bridges(n), topology.Cuts(n); len(l) != 0 || len(m) != 0 || len(c) != 0 {
			t.Errorf("%d: Components, Bridges, Cuts are %v, %v, %v", i, l, m, c)
		}
	}
}

// P5.2: routers.
func TestHasAndCapable(t *testing.T) {
	for _, n := range topologies() {
		for id := -2; id <= 103; id++ {
			at := slices.IndexFunc(n.Routers, func(r api.Router) bool { return r.ID == id })
			if got := topology.Has(n, id); got != (at >= 0) {
				t.Errorf("Has(%v, %d) is %v", n, id, got)
			}
			if got := topology.Capable(n, id); got != (at >= 0 && n.Routers[at].Capable) {
				t.Errorf("Capable(%v, %d) is %v", n, id, got)
			}
		}
		for _, id := range far {
			if topology.Has(n, id) || topology.Capable(n, id) {
				t.Errorf("Has or Capable is true for %d", id)
			}
		}
	}
}

// P5.2: an example of costs in both directions.
func TestCostKnown(t *testing.T) {
	n := api.Topology{Routers: routers(1, 5, 9), Links: []api.Link{{A: 1, B: 5, CostA: 7, CostB: 1000}, {A: 5, B: 9, CostA: 1, CostB: 30}}}
	for _, c := range []struct {
		from, to, want int
		ok             bool
	}{
		{1, 5, 7, true}, {5, 1, 1000, true}, {5, 9, 1, true}, {9, 5, 30, true},
		{1, 9, 0, false}, {9, 1, 0, false}, {1, 1, 0, false}, {5, 5, 0, false}, {1, 2, 0, false}, {0, 1, 0, false}, {5, 100, 0, false}, {math.MinInt, math.MaxInt, 0, false},
	} {
		if got, ok := topology.Cost(n, c.from, c.to); got != c.want || ok != c.ok {
			t.Errorf("Cost from %d to %d is %d, %v, want %d, %v", c.from, c.to, got, ok, c.want, c.ok)
		}
	}
}

// P5.2: all costs and neighbours, of routers and of numbers that are none.
func TestCostAndNeighbours(t *testing.T) {
	for _, n := range topologies() {
		costs := map[api.Hop]int{}
		for _, l := range n.Links {
			costs[api.Hop{From: l.A, To: l.B}], costs[api.Hop{From: l.B, To: l.A}] = l.CostA, l.CostB
		}
		for a := -1; a <= 101; a++ {
			var ends []int
			for b := -1; b <= 101; b++ {
				want, ok := costs[api.Hop{From: a, To: b}]
				// All links, and some of the pairs without one.
				if !ok && (a+b)%10 != 0 {
					continue
				}
				if got, found := topology.Cost(n, a, b); got != want || found != ok {
					t.Errorf("Cost from %d to %d is %d, %v, want %d, %v", a, b, got, found, want, ok)
				}
				if ok {
					ends = append(ends, b)
				}
			}
			if got := topology.Neighbours(n, a); !slices.Equal(got, ends) {
				t.Errorf("Neighbours of %d are %v, want %v", a, got, ends)
			}
		}
		for _, a := range far {
			if l := topology.Neighbours(n, a); len(l) != 0 {
				t.Errorf("Neighbours of %d are %v", a, l)
			}
		}
	}
}

// P5.2: an example of neighbours that are found in another order than in that of the list of links.
func TestNeighboursKnown(t *testing.T) {
	n := of(6, [2]int{1, 4}, [2]int{2, 5}, [2]int{3, 4}, [2]int{4, 5}, [2]int{4, 6})
	if got := topology.Neighbours(n, 4); !slices.Equal(got, []int{1, 3, 5, 6}) {
		t.Errorf("Neighbours of 4 are %v", got)
	}
}

// P5.3: examples.
func TestWithoutKnown(t *testing.T) {
	n := example()
	whole := func(l ...int) api.Topology {
		u := api.Topology{Routers: n.Routers}
		for _, i := range l {
			u.Links = append(u.Links, n.Links[i])
		}
		return u
	}
	for i, c := range []struct {
		f    api.Failure
		want api.Topology
	}{
		{api.Failure{}, n},
		{api.Failure{Links: []api.Hop{{From: 2, To: 3}}}, whole(0, 2, 3)},
		{api.Failure{Links: []api.Hop{{From: 3, To: 2}}}, whole(0, 2, 3)},
		{api.Failure{Links: []api.Hop{{From: 3, To: 2}, {From: 2, To: 3}, {From: 2, To: 3}, {From: 1, To: 2}}}, whole(2, 3)},
		{api.Failure{Links: []api.Hop{{From: 1, To: 3}, {From: 1, To: 1}, {}, {From: 100, To: math.MinInt}}, Routers: []int{0, 5, -1, 100, math.MaxInt}}, n},
		{api.Failure{Routers: []int{2}}, api.Topology{Routers: routers(1, 3, 4), Links: n.Links[3:]}},
		{api.Failure{Routers: []int{1}}, api.Topology{Routers: routers(2, 3, 4), Links: n.Links[1:]}},
		{api.Failure{Routers: []int{4, 1, 4}}, api.Topology{Routers: routers(2, 3), Links: n.Links[1:2]}},
		{api.Failure{Links: []api.Hop{{From: 4, To: 3}}, Routers: []int{2}}, api.Topology{Routers: routers(1, 3, 4)}},
		{api.Failure{Routers: []int{4, 3, 2, 1}}, api.Topology{}},
	} {
		if got := topology.Without(n, c.f); !equal(got, c.want) {
			t.Errorf("%d: Without is %v, want %v", i, got, c.want)
		}
	}
}

// failure returns a mixed failure of a topology, some of which does not exist.
func failure(next func(int) int, n api.Topology) api.Failure {
	var f api.Failure
	for range next(4) {
		f.Routers = append(f.Routers, next(101))
		if len(n.Routers) > 0 && next(2) == 0 {
			f.Routers = append(f.Routers, n.Routers[next(len(n.Routers))].ID)
		}
	}
	for range next(8) {
		hop := api.Hop{From: next(101), To: next(101)}
		if len(n.Links) > 0 && next(4) > 0 {
			l := n.Links[next(len(n.Links))]
			hop = api.Hop{From: l.A, To: l.B}
		}
		if next(2) == 0 {
			hop = api.Hop{From: hop.To, To: hop.From}
		}
		f.Links = append(f.Links, hop)
	}
	return f
}

// P5.3, P5.6: mixed failures: what has failed is left out, one thing after another, and the result is valid.
func TestWithoutAny(t *testing.T) {
	next := random(4)
	for _, n := range topologies() {
		for range 20 {
			f := failure(next, n)
			want := n
			for _, r := range f.Routers {
				want = withoutRouter(want, r)
			}
			for _, h := range f.Links {
				want = withoutLink(want, h.From, h.To)
			}
			got := topology.Without(n, f)
			if !equal(got, want) {
				t.Errorf("Without(%v, %v) is %v, want %v", n, f, got, want)
			}
			check(t, "Without", got, api.OK)
		}
	}
}

// apply tells of a change that has another result.
func apply(t *testing.T, what string, n api.Topology, c api.Change, want api.Topology) {
	t.Helper()
	if got, e := topology.Apply(n, c); !equal(got, want) || e != api.OK {
		t.Errorf("%s: Apply(%v, %v) is %v, %d, want %v", what, n, c, got, e, want)
	}
}

// refuse tells of a change that does not have this error.
func refuse(t *testing.T, what string, n api.Topology, c api.Change, want api.Errno) {
	t.Helper()
	if got, e := topology.Apply(n, c); !empty(got) || e != want {
		t.Errorf("%s: Apply(%v, %v) is %v, %d, want %d", what, n, c, got, e, want)
	}
}

// P5.4: examples.
func TestApplyKnown(t *testing.T) {
	r := routers(1, 2, 3, 4)
	n := api.Topology{Routers: r, Links: []api.Link{{A: 1, B: 2, CostA: 3, CostB: 4, Capacity: 5}, {A: 2, B: 3, CostA: 6, CostB: 7, Capacity: 8}}}
	first, second := n.Links[0], n.Links[1]
	with := func(l ...api.Link) api.Topology { return api.Topology{Routers: r, Links: l} }
	apply(t, "changed", n, api.Change{A: 1, B: 2, CostA: 30, CostB: 40}, with(api.Link{A: 1, B: 2, CostA: 30, CostB: 40, Capacity: 5}, second))
	apply(t, "changed from its end", n, api.Change{A: 3, B: 2, CostA: 30, CostB: 40}, with(first, api.Link{A: 2, B: 3, CostA: 40, CostB: 30, Capacity: 8}))
	apply(t, "changed to the same", n, api.Change{A: 3, B: 2, CostA: 7, CostB: 6}, n)
	apply(t, "new, between", n, api.Change{A: 1, B: 4, CostA: 1, CostB: 1000}, with(first, api.Link{A: 1, B: 4, CostA: 1, CostB: 1000}, second))
	apply(t, "new, from its end", n, api.Change{A: 4, B: 1, CostA: 1, CostB: 1000}, with(first, api.Link{A: 1, B: 4, CostA: 1000, CostB: 1}, second))
	apply(t, "new, last", n, api.Change{A: 3, B: 4, CostA: 9, CostB: 10}, with(first, second, api.Link{A: 3, B: 4, CostA: 9, CostB: 10}))
	apply(t, "new, first", with(second), api.Change{A: 2, B: 1, CostA: 9, CostB: 10}, with(api.Link{A: 1, B: 2, CostA: 10, CostB: 9}, second))
	apply(t, "new, alone", with(), api.Change{A: 4, B: 3, CostA: 9, CostB: 10}, with(api.Link{A: 3, B: 4, CostA: 10, CostB: 9}))
	apply(t, "removed, first", n, api.Change{A: 1, B: 2}, with(second))
	apply(t, "removed, from its end", n, api.Change{A: 3, B: 2}, with(first))
	apply(t, "removed, alone", with(first), api.Change{A: 1, B: 2}, with())
}

// P5.4: each error alone.
func TestApplyErrors(t *testing.T) {
	n := example()
	for _, x := range append([]int{0, 5, 99, 100, 129, 257}, far...) {
		refuse(t, "A", n, api.Change{A: x, B: 1, CostA: 1, CostB: 1}, api.ErrUnknown)
		refuse(t, "B", n, api.Change{A: 4, B: x, CostA: 1, CostB: 1}, api.ErrUnknown)
	}
	for x := 1; x <= 4; x++ {
		refuse(t, "equal", n, api.Change{A: x, B: x, CostA: 1, CostB: 1}, api.ErrConflict)
		refuse(t, "equal, removed", n, api.Change{A: x, B: x}, api.ErrConflict)
	}
	for _, ends := range [][2]int{{1, 2}, {2, 1}, {1, 3}, {3, 1}} {
		for _, x := range append([]int{1001, 1024, 1025}, far...) {
			for _, y := range []int{0, 1, 1000, x} {
				refuse(t, "CostA", n, api.Change{A: ends[0], B: ends[1], CostA: x, CostB: y}, api.ErrRange)
				refuse(t, "CostB", n, api.Change{A: ends[0], B: ends[1], CostA: y, CostB: x}, api.ErrRange)
			}
		}
		refuse(t, "CostA is 0", n, api.Change{A: ends[0], B: ends[1], CostB: 1}, api.ErrRange)
		refuse(t, "CostB is 0", n, api.Change{A: ends[0], B: ends[1], CostA: 1000}, api.ErrRange)
	}
	refuse(t, "no such link", n, api.Change{A: 1, B: 3}, api.ErrNone)
	refuse(t, "no such link", n, api.Change{A: 4, B: 1}, api.ErrNone)
	refuse(t, "no links", of(2), api.Change{A: 1, B: 2}, api.ErrNone)
}

// P5.4: with as many links as there may be, links are changed and removed, and there are no new ones.
func TestApplyLimit(t *testing.T) {
	n := greatest()
	last := n.Links[59]
	free := n.Routers[23].ID
	c := api.Change{A: last.A, B: last.B, CostA: 17, CostB: 18}
	if !slices.ContainsFunc(n.Links, func(l api.Link) bool { return l.A == n.Routers[1].ID && l.B == free }) {
		t.Fatal("the second router has no link to the last one")
	}
	refuse(t, "the 61st link", n, api.Change{A: free, B: n.Routers[22].ID, CostA: 1, CostB: 1}, api.ErrLimit)
	refuse(t, "the 61st link", n, api.Change{A: n.Routers[22].ID, B: free, CostA: 1, CostB: 1}, api.ErrLimit)
	refuse(t, "a link that there is not", n, api.Change{A: free, B: n.Routers[22].ID}, api.ErrNone)
	want := copied(n)
	want.Links[59].CostA, want.Links[59].CostB = 17, 18
	apply(t, "changed", n, c, want)
	want.Links = want.Links[:59]
	apply(t, "removed", n, api.Change{A: last.A, B: last.B}, want)
	apply(t, "the 60th link", want, api.Change{A: last.B, B: last.A, CostA: last.CostB, CostB: last.CostA}, api.Topology{Routers: n.Routers, Links: append(want.Links, api.Link{A: last.A, B: last.B, CostA: last.CostA, CostB: last.CostB})})
}

// P5.4: the order of the errors: each case has as many as possible of the mistakes that follow its own.
func TestApplyOrder(t *testing.T) {
	full := greatest()
	bad := copied(full)
	bad.Routers[5].ID = 0
	id := func(at int) int { return full.Routers[at].ID }
	for _, c := range []struct {
		name string
		n    api.Topology
		c    api.Change
		want api.Errno
	}{
		{"not valid, unknown and equal, a cost", bad, api.Change{A: 100, B: 100, CostA: 1001}, api.ErrInvalid},
		{"not valid, no such link", bad, api.Change{A: id(22), B: id(23)}, api.ErrInvalid},
		{"not valid, limit", bad, api.Change{A: id(22), B: id(23), CostA: 1, CostB: 1}, api.ErrInvalid},
		{"unknown and equal, a cost, limit", full, api.Change{A: 100, B: 100, CostA: 1001, CostB: 1}, api.ErrUnknown},
		{"unknown and equal, no such link", full, api.Change{A: 100, B: 100}, api.ErrUnknown},
		{"equal, a cost, limit", full, api.Change{A: id(3), B: id(3), CostA: 1, CostB: 0}, api.ErrConflict},
		{"equal, no such link", full, api.Change{A: id(3), B: id(3)}, api.ErrConflict},
		{"a cost, limit", full, api.Change{A: id(22), B: id(23), CostA: 1, CostB: 1001}, api.ErrRange},
	} {
		refuse(t, c.name, c.n, c.c, c.want)
	}
}

// changed returns the topology after a change, by the chapter's sentences: links are looked up by their ends.
func changed(n api.Topology, c api.Change) (api.Topology, api.Errno) {
	known := map[int]bool{}
	for _, r := range n.Routers {
		known[r.ID] = true
	}
	costs, capacities := map[api.Hop]int{}, map[api.Hop]int{}
	for _, l := range n.Links {
		costs[api.Hop{From: l.A, To: l.B}], costs[api.Hop{From: l.B, To: l.A}] = l.CostA, l.CostB
		capacities[api.Hop{From: l.A, To: l.B}] = l.Capacity
	}
	there, back := api.Hop{From: c.A, To: c.B}, api.Hop{From: c.B, To: c.A}
	_, exists := costs[there]
	zero := c.CostA == 0 && c.CostB == 0
	if !known[c.A] || !known[c.B] {
		return api.Topology{}, api.ErrUnknown
	}
	if c.A == c.B {
		return api.Topology{}, api.ErrConflict
	}
	if !zero && (c.CostA < 1 || c.CostB < 1 || c.CostA > 1000 || c.CostB > 1000) {
		return api.Topology{}, api.ErrRange
	}
	if zero && !exists {
		return api.Topology{}, api.ErrNone
	}
	if !exists && len(n.Links) >= 60 {
		return api.Topology{}, api.ErrLimit
	}
	costs[there], costs[back] = c.CostA, c.CostB
	u := api.Topology{Routers: n.Routers}
	for a := 1; a <= 99; a++ {
		for b := a + 1; b <= 99; b++ {
			if cost := costs[api.Hop{From: a, To: b}]; cost > 0 {
				u.Links = append(u.Links, api.Link{A: a, B: b, CostA: cost, CostB: costs[api.Hop{From: b, To: a}], Capacity: capacities[api.Hop{From: a, To: b}]})
			}
		}
	}
	return u, api.OK
}

// P5.4, P5.6: mixed changes, one after another, against the chapter's sentences; each result is valid.
func TestApplyAny(t *testing.T) {
	next := random(5)
	seen := map[api.Errno]int{}
	for _, n := range topologies() {
		for range 40 {
			c := api.Change{A: next(101), B: next(101), CostA: 1 + next(1000), CostB: 1 + next(1000)}
			if len(n.Routers) > 0 && next(10) > 0 {
				c.A, c.B = n.Routers[next(len(n.Routers))].ID, n.Routers[next(len(n.Routers))].ID
			}
			if next(4) == 0 {
				c.CostA, c.CostB = 0, 0
			}
			if next(10) == 0 {
				c.CostB = next(1010)
			}
			want, e := changed(n, c)
			seen[e]++
			if e != api.OK {
				refuse(t, "any", n, c, e)
				continue
			}
			apply(t, "any", n, c, want)
			check(t, "Apply", want, api.OK)
			n, _ = topology.Apply(n, c)
		}
	}
	for _, e := range []api.Errno{api.OK, api.ErrUnknown, api.ErrConflict, api.ErrRange, api.ErrNone, api.ErrLimit} {
		if seen[e] < 50 {
			t.Errorf("only %d changes have the error %d", seen[e], e)
		}
	}
}

// P5.5: examples, that of the chapter among them.
func TestComponentsKnown(t *testing.T) {
	hop := func(from, to int) api.Hop { return api.Hop{From: from, To: to} }
	for _, c := range []struct {
		name       string
		n          api.Topology
		components [][]int
		bridges    []api.Hop
		cuts       []int
	}{
		{"nothing", api.Topology{}, nil, nil, nil},
		{"alone", of(1), [][]int{{1}}, nil, nil},
		{"apart", of(3), [][]int{{1}, {2}, {3}}, nil, nil},
		{"a pair", of(2, [2]int{1, 2}), [][]int{{1, 2}}, []api.Hop{hop(1, 2)}, nil},
		{"the chapter's example", example(), [][]int{{1, 2, 3, 4}}, []api.Hop{hop(1, 2)}, []int{2}},
		{"a chain", of(4, [2]int{1, 2}, [2]int{2, 3}, [2]int{3, 4}), [][]int{{1, 2, 3, 4}}, []api.Hop{hop(1, 2), hop(2, 3), hop(3, 4)}, []int{2, 3}},
		{"a chain in another order", of(4, [2]int{1, 4}, [2]int{2, 3}, [2]int{2, 4}), [][]int{{1, 2, 3, 4}}, []api.Hop{hop(1, 4), hop(2, 3), hop(2, 4)}, []int{2, 4}},
		{"a ring", of(4, [2]int{1, 2}, [2]int{1, 4}, [2]int{2, 3}, [2]int{3, 4}), [][]int{{1, 2, 3, 4}}, nil, nil},
		{"a star", of(4, [2]int{1, 3}, [2]int{2, 3}, [2]int{3, 4}), [][]int{{1, 2, 3, 4}}, []api.Hop{hop(1, 3), hop(2, 3), hop(3, 4)}, []int{3}},
		{"two rings with a common router", of(5, [2]int{1, 2}, [2]int{1, 3}, [2]int{2, 3}, [2]int{3, 4}, [2]int{3, 5}, [2]int{4, 5}), [][]int{{1, 2, 3, 4, 5}}, nil, []int{3}},
		{"two rings with a bridge", of(6, [2]int{1, 2}, [2]int{1, 3}, [2]int{2, 3}, [2]int{3, 4}, [2]int{4, 5}, [2]int{4, 6}, [2]int{5, 6}), [][]int{{1, 2, 3, 4, 5, 6}}, []api.Hop{hop(3, 4)}, []int{3, 4}},
		{"two pairs and one alone", of(5, [2]int{1, 5}, [2]int{2, 3}), [][]int{{1, 5}, {2, 3}, {4}}, []api.Hop{hop(1, 5), hop(2, 3)}, nil},
		{"two chains", of(7, [2]int{1, 7}, [2]int{2, 5}, [2]int{2, 6}, [2]int{3, 7}), [][]int{{1, 3, 7}, {2, 5, 6}, {4}}, []api.Hop{hop(1, 7), hop(2, 5), hop(2, 6), hop(3, 7)}, []int{2, 7}},
	} {
		if got := topology.Components(c.n); !equalLists(got, c.components) {
			t.Errorf("%s: Components are %v", c.name, got)
		}
		if got := topology.Bridges(c.n); !slices.Equal(got, c.bridges) {
			t.Errorf("%s: Bridges are %v", c.name, got)
		}
		if got := topology.Cuts(c.n); !slices.Equal(got, c.cuts) {
			t.Errorf("%s: Cuts are %v", c.name, got)
		}
	}
}

// P5.5: it does not matter for paths whether routers are capable, nor what links cost and carry.
func TestComponentsOfAnyRouters(t *testing.T) {
	n := api.Topology{Routers: []api.Router{{ID: 3}, {ID: 50}, {ID: 99}}, Links: []api.Link{{A: 3, B: 50, CostA: 1000, CostB: 1}, {A: 50, B: 99, CostA: 1, CostB: 1000}}}
	if l := topology.Components(n); !equalLists(l, [][]int{{3, 50, 99}}) || !topology.Connected(n, 99, 3) {
		t.Errorf("Components are %v", l)
	}
	if m, c := topology.Bridges(n), topology.Cuts(n); len(m) != 2 || !slices.Equal(c, []int{50}) {
		t.Errorf("Bridges, Cuts are %v, %v", m, c)
	}
}

// P5.5: components and connected pairs, against all paths.
func TestComponentsAny(t *testing.T) {
	for _, n := range topologies() {
		path := reached(n)
		var want [][]int
		for _, r := range n.Routers {
			var part []int
			for _, s := range n.Routers {
				if path[r.ID][s.ID] {
					part = append(part, s.ID)
				}
			}
			if part[0] == r.ID {
				want = append(want, part)
			}
		}
		if got := topology.Components(n); !equalLists(got, want) {
			t.Errorf("Components(%v) are %v, want %v", n, got, want)
		}
		for a := range 100 {
			for b := range 100 {
				// All pairs of routers, and some of the others.
				if !path[a][a] && a%10 != 0 || !path[b][b] && b%10 != 0 {
					continue
				}
				if got := topology.Connected(n, a, b); got != path[a][b] {
					t.Errorf("Connected(%v, %d, %d) is %v", n, a, b, got)
				}
			}
		}
	}
}

// P5.5: numbers that are no routers are not connected with anything, not even with themselves.
func TestConnectedUnknown(t *testing.T) {
	n := example()
	for _, x := range append([]int{0, 5, 99, 100, 129}, far...) {
		if topology.Connected(n, x, x) || topology.Connected(n, 1, x) || topology.Connected(n, x, 1) {
			t.Errorf("Connected is true with %d", x)
		}
	}
}

// P5.5: bridges and cuts, against all paths.
func TestBridgesAndCutsAny(t *testing.T) {
	for _, n := range topologies() {
		whole := reached(n)
		var bridges []api.Hop
		for a := 1; a <= 99; a++ {
			for b := a + 1; b <= 99; b++ {
				linked := slices.ContainsFunc(n.Links, func(l api.Link) bool { return l.A == a && l.B == b })
				if linked && !reached(withoutLink(n, a, b))[a][b] {
					bridges = append(bridges, api.Hop{From: a, To: b})
				}
			}
		}
		if got := topology.Bridges(n); !slices.Equal(got, bridges) {
			t.Errorf("Bridges(%v) are %v, want %v", n, got, bridges)
		}
		var cuts []int
		for _, r := range n.Routers {
			rest := withoutRouter(n, r.ID)
			path := reached(rest)
			lost := slices.ContainsFunc(rest.Routers, func(a api.Router) bool {
				return slices.ContainsFunc(rest.Routers, func(b api.Router) bool { return whole[a.ID][b.ID] && !path[a.ID][b.ID] })
			})
			if lost {
				cuts = append(cuts, r.ID)
			}
		}
		if got := topology.Cuts(n); !slices.Equal(got, cuts) {
			t.Errorf("Cuts(%v) are %v, want %v", n, got, cuts)
		}
	}
}

// P5.6: components divide the routers.
func TestComponentsDivide(t *testing.T) {
	for _, n := range topologies() {
		var ids, all []int
		for _, r := range n.Routers {
			ids = append(ids, r.ID)
		}
		for _, part := range topology.Components(n) {
			if len(part) == 0 {
				t.Errorf("%v has a component without routers", n)
			}
			all = append(all, part...)
		}
		slices.Sort(all)
		if !slices.Equal(all, ids) {
			t.Errorf("the components of %v have %v", n, all)
		}
	}
}

// P5.6: without a bridge, and without a cut, there are more components, and only without these.
func TestMoreComponents(t *testing.T) {
	for _, n := range topologies() {
		whole := len(topology.Components(n))
		bridges, cuts := topology.Bridges(n), topology.Cuts(n)
		for _, l := range n.Links {
			hop := api.Hop{From: l.A, To: l.B}
			parts := len(topology.Components(topology.Without(n, api.Failure{Links: []api.Hop{hop}})))
			if slices.Contains(bridges, hop) != (parts > whole) {
				t.Errorf("without %v, %v has %d components, not %d", hop, n, parts, whole)
			}
		}
		for _, r := range n.Routers {
			parts := len(topology.Components(topology.Without(n, api.Failure{Routers: []int{r.ID}})))
			if slices.Contains(cuts, r.ID) != (parts > whole) {
				t.Errorf("without %d, %v has %d components, not %d", r.ID, n, parts, whole)
			}
		}
	}
}

// R5, R6: all functions leave their arguments as they are, and answer the same again.
func TestArgumentsStay(t *testing.T) {
	next := random(6)
	for _, n := range append(topologies(), invalid()...) {
		before := copied(n)
		f := api.Failure{Links: []api.Hop{{From: 9, To: 3}, {From: 1, To: 2}}, Routers: []int{7, 5, 5}}
		c := api.Change{A: 1 + next(5), B: 1 + next(5), CostA: 3, CostB: 4}
		for range 2 {
			topology.Check(n)
			topology.Has(n, 2)
			topology.Capable(n, 2)
			topology.Cost(n, 2, 1)
			topology.Neighbours(n, 2)
			topology.Without(n, f)
			topology.Apply(n, c)
			topology.Apply(n, api.Change{A: c.A, B: c.B})
			topology.Components(n)
			topology.Connected(n, 1, 2)
			topology.Bridges(n)
			topology.Cuts(n)
		}
		if !equal(n, before) {
			t.Errorf("%v has become %v", before, n)
		}
		if !slices.Equal(f.Links, []api.Hop{{From: 9, To: 3}, {From: 1, To: 2}}) || !slices.Equal(f.Routers, []int{7, 5, 5}) {
			t.Errorf("the failure has become %v", f)
		}
	}
}

// spoil overwrites a topology, and what may follow behind its lists.
func spoil(t api.Topology) {
	for i := range t.Routers {
		t.Routers[i] = api.Router{ID: -1}
	}
	for i := range t.Links {
		t.Links[i] = api.Link{A: -1}
	}
	_ = append(t.Routers, api.Router{ID: -2})
	_ = append(t.Links, api.Link{A: -2})
}

// R5: topologies that are results share no memory with the arguments, nor with what is behind them.
func TestMemoryOfTopologies(t *testing.T) {
	n := greatest()
	n.Links = n.Links[:30]
	before, all := copied(n), slices.Clone(n.Links[:60])
	link := n.Links[7]
	for i, call := range []func() (api.Topology, api.Errno){
		func() (api.Topology, api.Errno) { return topology.Without(n, api.Failure{}), api.OK },
		func() (api.Topology, api.Errno) {
			return topology.Without(n, api.Failure{Routers: []int{n.Routers[23].ID}}), api.OK
		},
		func() (api.Topology, api.Errno) {
			return topology.Apply(n, api.Change{A: link.A, B: link.B, CostA: 5, CostB: 6})
		},
		func() (api.Topology, api.Errno) { return topology.Apply(n, api.Change{A: link.B, B: link.A}) },
		func() (api.Topology, api.Errno) {
			return topology.Apply(n, api.Change{A: n.Routers[22].ID, B: n.Routers[23].ID, CostA: 5, CostB: 6})
		},
	} {
		first, e := call()
		if e != api.OK || len(first.Links) == 0 {
			t.Errorf("%d: the error is %d", i, e)
		}
		kept := copied(first)
		second, _ := call()
		spoil(second)
		if !equal(first, kept) || !equal(n, before) || !slices.Equal(n.Links[:60], all) {
			t.Errorf("%d: a result shares memory", i)
		}
	}
}

// R5: lists that are results share no memory with each other.
func TestMemoryOfLists(t *testing.T) {
	n := of(7, [2]int{1, 7}, [2]int{2, 5}, [2]int{2, 6}, [2]int{3, 7})
	want := [][]int{{1, 3, 7}, {2, 5, 6}, {4}}
	for i := range want {
		got := topology.Components(n)
		_ = append(got[i], -1)
		if !equalLists(got, want) {
			t.Errorf("behind %d follows another component", i)
		}
		got[i][0] = -1
		if !equalLists(topology.Components(n), want) {
			t.Errorf("Components have changed")
		}
	}
	topology.Neighbours(n, 7)[0] = -1
	topology.Bridges(n)[0] = api.Hop{}
	topology.Cuts(n)[0] = -1
	if !slices.Equal(topology.Neighbours(n, 7), []int{1, 3}) || topology.Bridges(n)[0] != (api.Hop{From: 1, To: 7}) || !slices.Equal(topology.Cuts(n), []int{2, 7}) {
		t.Errorf("lists have changed")
	}
}
