package table_test

import (
	"fmt"
	"math"
	"slices"
	"testing"

	"bitcast/api"
	"bitcast/shortest"
	"bitcast/table"
	"bitcast/topology"
)

// random returns a fixed sequence of numbers below n, so that each run of the tests is the same.
func random(seed uint64) func(n int) int {
	return func(n int) int {
		seed = seed*6364136223846793005 + 1442695040888963407
		return int(seed >> 33 % uint64(n))
	}
}

// domain returns a topology in which the routers of plain are not capable, with links that cost 1 in both directions.
func domain(n int, plain []int, ends ...[2]int) api.Topology {
	var t api.Topology
	for id := 1; id <= n; id++ {
		t.Routers = append(t.Routers, api.Router{ID: id, Capable: !slices.Contains(plain, id)})
	}
	for _, e := range ends {
		t.Links = append(t.Links, api.Link{A: e[0], B: e[1], CostA: 1, CostB: 1})
	}
	return t
}

// chain returns the topology of the routers 1, 2 and 3 in a chain, of which 2 is not capable.
func chain() api.Topology { return domain(3, []int{2}, [2]int{1, 2}, [2]int{2, 3}) }

// meshed returns a topology of n routers, the numbers of which are so many apart, in which each pair has a link with one chance in thin, as far as there may be links. Costs are at most dear. Of each ten routers, about plain are not capable.
func meshed(next func(int) int, n, apart, thin, dear, plain int) api.Topology {
	var t api.Topology
	for i := range n {
		t.Routers = append(t.Routers, api.Router{ID: 1 + i*apart, Capable: next(10) >= plain})
	}
	for i, a := range t.Routers {
		for _, b := range t.Routers[i+1:] {
			if next(thin) == 0 && len(t.Links) < 60 {
				t.Links = append(t.Links, api.Link{A: a.ID, B: b.ID, CostA: 1 + next(dear), CostB: 1 + next(dear), Capacity: next(1001)})
			}
		}
	}
	return t
}

// small returns topologies of which all paths can be listed.
func small() []api.Topology {
	next := random(1)
	l := []api.Topology{{}, {Routers: []api.Router{}, Links: []api.Link{}}, domain(1, nil), domain(1, []int{1}), domain(5, []int{2}), chain()}
	// The greatest numbers that routers can have.
	l = append(l, meshed(next, 3, 49, 1, 1, 0), meshed(next, 3, 49, 1, 9, 5), meshed(next, 8, 14, 1, 2, 5), meshed(next, 8, 14, 2, 4, 10))
	for n := 2; n <= 7; n++ {
		for _, plain := range []int{0, 3, 6, 9} {
			for thin := 1; thin <= 3; thin++ {
				for _, dear := range []int{1, 2, 4, 1000} {
					l = append(l, meshed(next, n, 1+next(14), thin, dear, plain))
				}
			}
		}
	}
	return l
}

// great returns topologies with many routers.
func great() []api.Topology {
	next := random(2)
	l := []api.Topology{crowded(1), crowded(2), crowded(24)}
	for n := 8; n <= 24; n += 4 {
		for _, plain := range []int{0, 4, 8} {
			for _, dear := range []int{1, 3, 1000} {
				l = append(l, meshed(next, n, 4, 1+next(6), dear, plain))
			}
		}
	}
	return l
}

// crowded returns a topology with 24 routers in which hundred thousands of shortest paths lead from the first to the last one; of the others, each one whose number apart divides is capable.
func crowded(apart int) api.Topology {
	var t api.Topology
	for i, links := range []int{0, 1, 2, 3, 2, 3, 3, 2, 3, 3, 2, 3, 3, 3, 3, 3, 2, 3, 3, 2, 3, 3, 2, 3} {
		b := i + 1
		t.Routers = append(t.Routers, api.Router{ID: b, Capable: b == 1 || b%apart == 0})
		for a := b - links; a < b; a++ {
			t.Links = append(t.Links, api.Link{A: a, B: b, CostA: b - a, CostB: b - a})
		}
	}
	slices.SortFunc(t.Links, func(l, m api.Link) int { return (l.A-m.A)*100 + l.B - m.B })
	return t
}

// wrongTopologies returns topologies that are not valid, for all reasons, with links between the routers 1, 2 and 3 as far as they can have them.
func wrongTopologies() []api.Topology {
	var l []api.Topology
	for _, spoil := range []func(t *api.Topology){
		func(t *api.Topology) { t.Routers = domain(25, nil).Routers },
		func(t *api.Topology) {
			*t = meshed(random(3), 12, 1, 1, 9, 0)
			t.Links = append(t.Links, api.Link{A: 11, B: 12, CostA: 1, CostB: 1})
		},
		func(t *api.Topology) { t.Routers = append(t.Routers, api.Router{ID: 100}) },
		func(t *api.Topology) { t.Routers = append([]api.Router{{ID: 0}}, t.Routers...) },
		func(t *api.Topology) { t.Routers = append(t.Routers, api.Router{ID: 3}) },
		func(t *api.Topology) { t.Routers[0], t.Routers[1] = t.Routers[1], t.Routers[0] },
		func(t *api.Topology) { t.Links[2].CostA = 0 },
		func(t *api.Topology) { t.Links[2].CostB = 1001 },
		func(t *api.Topology) { t.Links[2].CostB = math.MaxInt },
		func(t *api.Topology) { t.Links[2].Capacity = -1 },
		func(t *api.Topology) { t.Links[2].B = 4 },
		func(t *api.Topology) { t.Links[2].B = 2 },
		func(t *api.Topology) { t.Links[2].A, t.Links[2].B = 3, 2 },
		func(t *api.Topology) { t.Links[1], t.Links[2] = t.Links[2], t.Links[1] },
		func(t *api.Topology) { t.Links = append(t.Links, t.Links[2]) },
		func(t *api.Topology) { t.Routers, t.Links = make([]api.Router, 100000), make([]api.Link, 100000) },
	} {
		t := domain(3, nil, [2]int{1, 2}, [2]int{1, 3}, [2]int{2, 3})
		spoil(&t)
		l = append(l, t)
	}
	return l
}

// planOf returns a plan of the subdomain 5 with the length 16 and these edges: an identifier after the router to which it belongs.
func planOf(numbers ...int) api.Plan {
	p := api.Plan{Subdomain: 5, Length: 16}
	for i := 0; i < len(numbers); i += 2 {
		p.Edges = append(p.Edges, api.Edge{Router: numbers[i], ID: numbers[i+1]})
	}
	return p
}

// planFor returns a plan with the routers of a topology, thinned out, in any order, and with others.
func planFor(next func(int) int, t api.Topology, thin int) api.Plan {
	p := api.Plan{Subdomain: next(8), Length: lengths[next(4)]}
	var routers []int
	for _, r := range t.Routers {
		if next(thin) == 0 {
			routers = slices.Insert(routers, next(len(routers)+1), r.ID)
		}
	}
	for _, n := range []int{1, 50, 98, 99} {
		if len(routers) < 24 && !slices.Contains(routers, n) && next(2) == 0 {
			routers = slices.Insert(routers, next(len(routers)+1), n)
		}
	}
	id := 0
	for _, r := range routers {
		id += 1 + next(10)
		p.Edges = append(p.Edges, api.Edge{Router: r, ID: id})
	}
	return p
}

// wrongPlans returns plans that are not valid.
func wrongPlans() []api.Plan {
	l := []api.Plan{
		{Subdomain: -1}, {Subdomain: 8, Length: 8}, {Length: 1}, {Length: -8}, {Length: 128},
		planOf(0, 1), planOf(1, 1, 100, 2), planOf(1, 0), planOf(1, 257), planOf(1, -1),
		planOf(1, 2, 2, 1), planOf(1, 1, 2, 1), planOf(1, 1, 1, 2), planOf(1, 1, 2, 2, 1, 3),
	}
	without, many := planOf(1, 1), planOf()
	without.Length = 0
	for i := range 25 {
		many.Edges = append(many.Edges, api.Edge{Router: 1 + i, ID: 1 + i})
	}
	return append(l, without, many)
}

// numbers returns the routers of a topology, and some numbers that are none.
func numbers(t api.Topology) []int {
	l := append([]int{0, 2, 50, 99, 100, 129}, far...)
	for _, r := range t.Routers {
		l = append(l, r.ID)
	}
	return l
}

// capable reports whether a topology has this router, and it is capable.
func capable(t api.Topology, router int) bool {
	return slices.Contains(t.Routers, api.Router{ID: router, Capable: true})
}

// path is a path with what it costs.
type path struct {
	routers []int
	cost    int
}

// pathsFrom returns all paths from a router that pass no router twice, from the router itself on.
func pathsFrom(t api.Topology, from int) []path {
	if !topology.Has(t, from) {
		return nil
	}
	all := []path{{[]int{from}, 0}}
	// The list grows by what it is gone through for.
	for i := 0; i < len(all); i++ {
		p := all[i]
		last := p.routers[len(p.routers)-1]
		add := func(router, cost int) {
			if !slices.Contains(p.routers, router) {
				all = append(all, path{append(slices.Clone(p.routers), router), p.cost + cost})
			}
		}
		for _, l := range t.Links {
			switch last {
			case l.A:
				add(l.B, l.CostA)
			case l.B:
				add(l.A, l.CostB)
			}
		}
	}
	return all
}

// hopsOnPaths returns the next capable routers, by the definition: from all paths from a router.
func hopsOnPaths(t api.Topology, paths []path, to int) []int {
	least := math.MaxInt
	for _, p := range paths {
		if p.routers[len(p.routers)-1] == to {
			least = min(least, p.cost)
		}
	}
	var hops []int
	for _, p := range paths {
		if p.routers[len(p.routers)-1] != to || p.cost != least {
			continue
		}
		for _, r := range p.routers[1:] {
			if capable(t, r) {
				hops = append(hops, r)
				break
			}
		}
	}
	slices.Sort(hops)
	return slices.Compact(hops)
}

// hopsByCosts returns what Hops of a topology are, by costs: capable routers on shortest paths that are as near as they are when all other capable routers are taken away.
func hopsByCosts(t api.Topology) func(from, to int) []int {
	costs, direct := map[api.Hop]int{}, map[api.Hop]int{}
	for _, from := range t.Routers {
		for _, d := range shortest.Distances(t, from.ID) {
			costs[api.Hop{From: from.ID, To: d.Router}] = d.Cost
		}
		for _, r := range t.Routers {
			if cost, reached := shortest.Cost(withoutOthers(t, from.ID, r.ID), from.ID, r.ID); reached && r.Capable {
				direct[api.Hop{From: from.ID, To: r.ID}] = cost
			}
		}
	}
	return func(from, to int) []int {
		var hops []int
		whole, connected := costs[api.Hop{From: from, To: to}]
		for _, r := range t.Routers {
			before, near := direct[api.Hop{From: from, To: r.ID}]
			behind, reached := costs[api.Hop{From: r.ID, To: to}]
			if r.ID != from && connected && near && reached && before+behind == whole {
				hops = append(hops, r.ID)
			}
		}
		return hops
	}
}

// withoutOthers returns a topology without its capable routers but a and b.
func withoutOthers(t api.Topology, a, b int) api.Topology {
	var others []int
	for _, r := range t.Routers {
		if r.Capable && r.ID != a && r.ID != b {
			others = append(others, r.ID)
		}
	}
	return topology.Without(t, api.Failure{Routers: others})
}

// built returns the table of a router, by the definition, from what Hops of the topology are.
func built(t api.Topology, hops func(from, to int) []int, p api.Plan, router int) api.Table {
	b := api.Table{Router: router, Subdomain: p.Subdomain, Length: p.Length}
	for _, e := range p.Edges {
		r := api.Row{ID: e.ID}
		switch {
		case e.Router == router:
			r.Next = []int{router}
		case capable(t, e.Router):
			r.Next = hops(router, e.Router)
		}
		b.Rows = append(b.Rows, r)
	}
	return b
}

// P11.2: known topologies.
func TestHopsKnown(t *testing.T) {
	square := [][2]int{{1, 2}, {1, 3}, {2, 4}, {3, 4}}
	// Two squares, one behind the other.
	squares := append(slices.Clone(square), [2]int{4, 5}, [2]int{4, 6}, [2]int{5, 7}, [2]int{6, 7})
	longer := domain(4, []int{2}, square...)
	longer.Links[1].CostA = 2
	last := chain()
	last.Routers[1].ID, last.Routers[2].ID = 98, 99
	last.Links[0].B, last.Links[1].A, last.Links[1].B = 98, 98, 99
	for i, c := range []struct {
		t        api.Topology
		from, to int
		want     []int
	}{
		{chain(), 1, 3, []int{3}}, {chain(), 3, 1, []int{1}}, {chain(), 1, 2, nil}, {chain(), 2, 1, []int{1}}, {chain(), 2, 3, []int{3}}, {chain(), 2, 2, nil},
		{last, 1, 99, []int{99}}, {last, 99, 1, []int{1}}, {last, 98, 99, []int{99}}, {last, 99, 98, nil},
		{domain(4, nil, square...), 1, 4, []int{2, 3}}, {domain(4, nil, square...), 1, 2, []int{2}},
		{domain(4, []int{2}, square...), 1, 4, []int{3, 4}}, {domain(4, []int{3}, square...), 1, 4, []int{2, 4}},
		{domain(4, []int{2, 3}, square...), 1, 4, []int{4}},
		// Of both paths one counts, since there is nobody capable on the other one.
		{domain(4, []int{2, 4}, square...), 1, 4, []int{3}}, {domain(4, []int{2, 3, 4}, square...), 1, 4, nil},
		// It does not matter whether the router itself is capable.
		{domain(4, []int{1, 2}, square...), 1, 4, []int{3, 4}}, {domain(4, []int{1, 2, 3, 4}, square...), 1, 4, nil},
		// The path over 3 costs more.
		{longer, 1, 4, []int{4}}, {longer, 4, 1, []int{1, 3}},
		// What is behind the first capable router does not count.
		{domain(7, []int{5}, squares...), 1, 7, []int{2, 3}}, {domain(7, []int{2, 3}, squares...), 1, 7, []int{4}},
		{domain(7, []int{2, 3, 4}, squares...), 1, 7, []int{5, 6}}, {domain(7, []int{2, 3, 4, 6}, squares...), 1, 7, []int{5, 7}},
		{domain(7, []int{2, 4, 6}, squares...), 1, 7, []int{3, 5, 7}}, {domain(7, []int{2, 3, 4, 5, 6}, squares...), 1, 7, []int{7}},
		{domain(7, []int{2, 3, 4, 5, 6, 7}, squares...), 1, 7, nil}, {domain(7, []int{2, 4, 6, 7}, squares...), 1, 7, []int{3, 5}},
	} {
		if got := table.Hops(c.t, c.from, c.to); !slices.Equal(got, c.want) {
			t.Errorf("%d: Hops from %d to %d are %v, not %v", i, c.from, c.to, got, c.want)
		}
	}
}

// P11.2: all shortest paths of small topologies, and routers that do not exist.
func TestHopsOnPaths(t *testing.T) {
	for i, n := range small() {
		for _, from := range numbers(n) {
			paths := pathsFrom(n, from)
			for _, to := range numbers(n) {
				want := hopsOnPaths(n, paths, to)
				if got := table.Hops(n, from, to); !slices.Equal(got, want) {
					t.Errorf("%d: Hops from %d to %d are %v, not %v", i, from, to, got, want)
				}
			}
		}
	}
}

// P11.2: great topologies.
func TestHopsByCosts(t *testing.T) {
	for i, n := range great() {
		hops := hopsByCosts(n)
		for _, from := range n.Routers {
			for _, to := range n.Routers {
				want := hops(from.ID, to.ID)
				if got := table.Hops(n, from.ID, to.ID); !slices.Equal(got, want) {
					t.Errorf("%d: Hops from %d to %d are %v, not %v", i, from.ID, to.ID, got, want)
				}
			}
		}
	}
}

// P11.2: topologies that are not valid.
func TestHopsInvalid(t *testing.T) {
	for i, n := range wrongTopologies() {
		for from := range 5 {
			for to := range 5 {
				if got := table.Hops(n, from, to); len(got) != 0 {
					t.Errorf("%d: Hops from %d to %d are %v", i, from, to, got)
				}
			}
		}
	}
}

// P11.3: the chapter's example.
func TestBuildExample(t *testing.T) {
	p := api.Plan{Length: 8, Edges: []api.Edge{{Router: 3, ID: 1}}}
	for router, next := range map[int]int{1: 3, 3: 3} {
		want := api.Table{Router: router, Length: 8, Rows: []api.Row{row(1, next)}}
		if got, e := table.Build(chain(), p, router); !same(got, want) || e != api.OK {
			t.Errorf("Build of %d is %v, %d", router, got, e)
		}
	}
}

// P11.3: known tables.
func TestBuildKnown(t *testing.T) {
	// A square whose router 2 is not capable, with 5 behind 4, and 6 alone.
	n := domain(6, []int{2}, [2]int{1, 2}, [2]int{1, 3}, [2]int{2, 4}, [2]int{3, 4}, [2]int{4, 5})
	p := planOf(5, 1, 99, 2, 3, 7, 2, 8, 6, 9, 1, 200, 4, 256)
	rows := func(next ...[]int) []api.Row {
		var l []api.Row
		for i, e := range p.Edges {
			l = append(l, api.Row{ID: e.ID, Next: next[i]})
		}
		return l
	}
	for router, want := range map[int][]api.Row{
		1: rows([]int{3, 4}, nil, []int{3}, nil, nil, []int{1}, []int{3, 4}),
		3: rows([]int{4}, nil, []int{3}, nil, nil, []int{1}, []int{4}),
		4: rows([]int{5}, nil, []int{3}, nil, nil, []int{1, 3}, []int{4}),
		5: rows([]int{5}, nil, []int{4}, nil, nil, []int{4}, []int{4}),
		6: rows(nil, nil, nil, nil, []int{6}, nil, nil),
	} {
		if got, e := table.Build(n, p, router); !same(got, api.Table{Router: router, Subdomain: 5, Length: 16, Rows: want}) || e != api.OK {
			t.Errorf("Build of %d is %v, %d", router, got, e)
		}
	}
	for i, p := range []api.Plan{{}, {Subdomain: 7}, {Subdomain: 2, Length: 64}, {Length: 8, Edges: []api.Edge{}}} {
		want := api.Table{Router: 4, Subdomain: p.Subdomain, Length: p.Length}
		if got, e := table.Build(n, p, 4); !same(got, want) || e != api.OK {
			t.Errorf("%d: Build without edges is %v, %d", i, got, e)
		}
	}
}

// domains calls check with topologies and plans of many kinds.
func domains(check func(name string, n api.Topology, p api.Plan)) {
	next := random(4)
	for i, n := range append(small(), great()...) {
		for thin := 1; thin <= 3; thin++ {
			check(fmt.Sprintf("%d, %d", i, thin), n, planFor(next, n, thin))
		}
	}
}

// P11.3: the tables of all routers, and the errors for what is none or not capable.
func TestBuild(t *testing.T) {
	domains(func(name string, n api.Topology, p api.Plan) {
		hops := hopsByCosts(n)
		for _, router := range numbers(n) {
			want, code := api.Table{}, api.OK
			switch {
			case !slices.ContainsFunc(n.Routers, func(r api.Router) bool { return r.ID == router }):
				code = api.ErrUnknown
			case !capable(n, router):
				code = api.ErrCapable
			default:
				want = built(n, hops, p, router)
			}
			if got, e := table.Build(n, p, router); !same(got, want) || e != code {
				t.Errorf("%s: Build of %d is %v, %d, not %v, %d", name, router, got, e, want, code)
			}
		}
	})
}

// P11.3, P11.4: topologies and plans that are not valid, whatever the router.
func TestInvalid(t *testing.T) {
	check := func(name string, n api.Topology, p api.Plan) {
		for _, router := range append([]int{0, 1, 2, 3, 4, 99, 100}, far...) {
			if got, e := table.Build(n, p, router); !same(got, api.Table{}) || e != api.ErrInvalid {
				t.Errorf("%s: Build of %d is %v, %d", name, router, got, e)
			}
		}
		if got, e := table.All(n, p); len(got) != 0 || e != api.ErrInvalid {
			t.Errorf("%s: All is %v, %d", name, got, e)
		}
	}
	for i, n := range wrongTopologies() {
		for _, p := range append(wrongPlans(), api.Plan{}, planOf(1, 1), planOf(3, 7, 2, 9)) {
			check(fmt.Sprintf("topology %d", i), n, p)
		}
	}
	for i, p := range wrongPlans() {
		for _, n := range []api.Topology{{}, chain(), domain(3, nil), domain(2, []int{1, 2})} {
			check(fmt.Sprintf("plan %d", i), n, p)
		}
	}
}

// P11.4: the tables of all capable routers, and P11.5: they are valid together.
func TestAll(t *testing.T) {
	domains(func(name string, n api.Topology, p api.Plan) {
		hops := hopsByCosts(n)
		var want []api.Table
		for _, r := range n.Routers {
			if r.Capable {
				want = append(want, built(n, hops, p, r.ID))
			}
		}
		got, e := table.All(n, p)
		if !slices.EqualFunc(got, want, same) || e != api.OK {
			t.Errorf("%s: All is %v, %d, not %v", name, got, e, want)
		}
		if e := table.CheckAll(got); e != api.OK {
			t.Errorf("%s: CheckAll of All is %d", name, e)
		}
	})
}

// P11.4: topologies without capable routers have no tables.
func TestAllNone(t *testing.T) {
	for i, n := range []api.Topology{{}, domain(1, []int{1}), domain(3, []int{1, 2, 3}, [2]int{1, 2}, [2]int{2, 3})} {
		for _, p := range []api.Plan{{}, planOf(), planOf(2, 1), planOf(3, 1, 99, 256)} {
			if got, e := table.All(n, p); len(got) != 0 || e != api.OK {
				t.Errorf("%d: All is %v, %d", i, got, e)
			}
		}
	}
}

// P11.5: if all routers are capable, next hops are those of shortest paths.
func TestAllCapable(t *testing.T) {
	domains(func(name string, n api.Topology, p api.Plan) {
		n.Routers = slices.Clone(n.Routers)
		for i := range n.Routers {
			n.Routers[i].Capable = true
		}
		l, _ := table.All(n, p)
		if len(l) != len(n.Routers) {
			t.Errorf("%s: All has %d tables for %d routers", name, len(l), len(n.Routers))
		}
		for _, b := range l {
			for i, e := range p.Edges {
				want := shortest.Next(n, b.Router, e.Router)
				if e.Router == b.Router {
					want = []int{b.Router}
				}
				if !slices.Equal(b.Rows[i].Next, want) {
					t.Errorf("%s: the next hops of %d to %d are %v, not %v", name, b.Router, e.Router, b.Rows[i].Next, want)
				}
			}
		}
	})
}

// P11.5: next hops are nearer, and there are some to each edge router that is capable and can be reached.
func TestNextHopsAreNearer(t *testing.T) {
	domains(func(name string, n api.Topology, p api.Plan) {
		l, _ := table.All(n, p)
		for _, b := range l {
			for i, e := range p.Edges {
				whole, connected := shortest.Cost(n, b.Router, e.Router)
				if got := len(b.Rows[i].Next) > 0; got != (connected && capable(n, e.Router)) {
					t.Errorf("%s: the next hops of %d to %d are %v", name, b.Router, e.Router, b.Rows[i].Next)
				}
				for _, next := range b.Rows[i].Next {
					if rest, reached := shortest.Cost(n, next, e.Router); e.Router != b.Router && (!reached || rest >= whole) {
						t.Errorf("%s: from %d to %d it costs %d, from the next hop %d %d", name, b.Router, e.Router, whole, next, rest)
					}
				}
			}
		}
	})
}

// R5, R6: Hops, Build and All leave their arguments as they are, and answer the same again, in memory of their own.
func TestArgumentsStay(t *testing.T) {
	domains(func(name string, n api.Topology, p api.Plan) {
		kept := api.Topology{Routers: slices.Clone(n.Routers), Links: slices.Clone(n.Links)}
		edges := slices.Clone(p.Edges)
		first, _ := table.All(n, p)
		var before []api.Table
		for _, b := range first {
			before = append(before, copied(b))
			for _, e := range p.Edges {
				hops := table.Hops(n, b.Router, e.Router)
				spoilRows([]api.Row{{Next: hops}})
			}
			one, _ := table.Build(n, p, b.Router)
			spoilRows(one.Rows)
		}
		for i, b := range first {
			for k, r := range b.Rows {
				if !slices.Equal(r.Next, before[i].Rows[k].Next) {
					t.Errorf("%s: the next hops of %d have become %v", name, b.Router, r.Next)
				}
				spoilRows(b.Rows[k : k+1 : k+1])
			}
			spoilRows(b.Rows)
		}
		if again, _ := table.All(n, p); !slices.EqualFunc(again, before, same) {
			t.Errorf("%s: All is %v, then %v", name, before, again)
		}
		if !slices.Equal(n.Routers, kept.Routers) || !slices.Equal(n.Links, kept.Links) || !slices.Equal(p.Edges, edges) {
			t.Errorf("%s: the topology or the plan has changed", name)
		}
	})
}
