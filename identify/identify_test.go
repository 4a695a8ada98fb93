package identify_test

import (
	"cmp"
	"math"
	"slices"
	"testing"

	"bitcast/api"
	"bitcast/identify"
)

// far has numbers that are out of every range, some of which seem to be in one if only their lowest bits are looked at.
var far = []int{math.MinInt, math.MinInt + 1, -1 << 32, -1<<32 + 8, -8, -1, 257, 264, 1<<32 + 1, 1<<32 + 8, 1<<62 + 8, math.MaxInt}

// lengths has the lengths of bit strings.
var lengths = []int{8, 16, 32, 64}

// random returns a fixed sequence of numbers below n, so that each run of the tests is the same.
func random(seed uint64) func(n int) int {
	return func(n int) int {
		seed = seed*6364136223846793005 + 1442695040888963407
		return int(seed >> 33 % uint64(n))
	}
}

// claim returns a claim of a router.
func claim(router, subdomain, id, length int) api.Owned {
	return api.Owned{Router: router, Claim: api.Claim{Subdomain: subdomain, ID: id, Length: length}}
}

// example returns the claims of the chapter's example.
func example() []api.Owned {
	return []api.Owned{claim(1, 0, 5, 8), claim(2, 0, 5, 8), claim(3, 0, 1, 8)}
}

// some returns valid claims: of each router, with one chance in thin, one for each subdomain, with identifiers from low on in a range of so many.
func some(next func(int) int, thin, low, width int) []api.Owned {
	var l []api.Owned
	for router := 1; router <= 99; router++ {
		for subdomain := 0; subdomain <= 7 && len(l) < 192; subdomain++ {
			if next(thin) == 0 {
				l = append(l, claim(router, subdomain, low+next(width), lengths[next(4)]))
			}
		}
	}
	return l
}

// crowd returns claims of n routers for one subdomain, with identifiers from low on in a range of so many.
func crowd(next func(int) int, n, subdomain, low, width int) []api.Owned {
	var l []api.Owned
	for router := 100 - n; router <= 99; router++ {
		l = append(l, claim(router, subdomain, low+next(width), lengths[next(4)]))
	}
	return l
}

// valids returns valid claims of many kinds: few and many, with few conflicts and with nothing else.
func valids() [][]api.Owned {
	next := random(10)
	lists := [][]api.Owned{nil, {}, example(), full()}
	for i := range 100 {
		width := 1 + next(1+5*i/2)
		low := 1 + next(257-width)
		lists = append(lists, some(next, 1+next(40), low, width), crowd(next, 1+next(99), next(8), low, width))
	}
	return lists
}

// full returns as many claims as there may be: of 24 routers for all subdomains.
func full() []api.Owned {
	var l []api.Owned
	for router := 76; router <= 99; router++ {
		for subdomain := range 8 {
			l = append(l, claim(router, subdomain, 100+router, 8<<(subdomain%4)))
		}
	}
	return l
}

// plan returns a plan of the subdomain 3 with these edges: an identifier after the router to which it belongs.
func plan(length int, numbers ...int) api.Plan {
	p := api.Plan{Subdomain: 3, Length: length}
	for i := 0; i < len(numbers); i += 2 {
		p.Edges = append(p.Edges, api.Edge{Router: numbers[i], ID: numbers[i+1]})
	}
	return p
}

// great returns a plan with as many edges as there may be.
func great(next func(int) int, length int) api.Plan {
	p := api.Plan{Subdomain: next(8), Length: length}
	for i := range 24 {
		// Steps of ten and four keep identifiers ascending and routers different.
		p.Edges = append(p.Edges, api.Edge{Router: 98 - 4*i + next(4) - 2, ID: 1 + 10*i + next(10)})
	}
	return p
}

// plans returns valid plans.
func plans() []api.Plan {
	next := random(11)
	l := []api.Plan{{}, {Subdomain: 7}, plan(8), plan(64), plan(8, 3, 1), plan(16, 9, 16, 8, 17, 7, 256), plan(8, 1, 1, 99, 256)}
	for i := range 200 {
		p := great(next, lengths[i%4])
		thin := 1 + next(4)
		p.Edges = slices.DeleteFunc(p.Edges, func(api.Edge) bool { return next(thin) != 0 })
		l = append(l, p)
	}
	return l
}

// of returns the claims for a subdomain.
func of(l []api.Owned, subdomain int) []api.Owned {
	return slices.DeleteFunc(slices.Clone(l), func(o api.Owned) bool { return o.Claim.Subdomain != subdomain })
}

// claimers returns the routers that claim an identifier in a subdomain.
func claimers(l []api.Owned, subdomain, id int) []int {
	var routers []int
	for _, o := range of(l, subdomain) {
		if o.Claim.ID == id {
			routers = append(routers, o.Router)
		}
	}
	return routers
}

// conflicts returns the identifiers in conflict, by the definition.
func conflicts(l []api.Owned, subdomain int) []int {
	var ids []int
	for id := 1; id <= 256; id++ {
		if len(claimers(l, subdomain, id)) >= 2 {
			ids = append(ids, id)
		}
	}
	return ids
}

// samePlan reports whether plans are equal.
func samePlan(a, b api.Plan) bool {
	return a.Subdomain == b.Subdomain && a.Length == b.Length && slices.Equal(a.Edges, b.Edges)
}

// rangeOf returns the claims with one number or Length out of range in the claim k, in all ways.
func rangeOf(l []api.Owned, k int) [][]api.Owned {
	var lists [][]api.Owned
	put := func(change func(o *api.Owned)) {
		wrong := slices.Clone(l)
		change(&wrong[k])
		lists = append(lists, wrong)
	}
	for _, n := range append([]int{0, 100, 128}, far...) {
		put(func(o *api.Owned) { o.Router = n })
	}
	for _, n := range append([]int{8, 16}, far...) {
		put(func(o *api.Owned) { o.Claim.Subdomain = n })
	}
	for _, n := range append([]int{0, 512}, far...) {
		put(func(o *api.Owned) { o.Claim.ID = n })
	}
	for _, n := range append([]int{0, 1, 4, 7, 9, 15, 17, 24, 31, 33, 48, 63, 65, 128}, far...) {
		put(func(o *api.Owned) { o.Claim.Length = n })
	}
	return lists
}

// disordered returns valid claims that are not ascending.
func disordered() [][]api.Owned {
	a, b, c, d := claim(1, 6, 9, 8), claim(1, 7, 3, 8), claim(2, 0, 9, 8), claim(2, 6, 9, 16)
	twice := claim(2, 0, 10, 16)
	late := full()
	late[190], late[191] = late[191], late[190]
	return [][]api.Owned{{b, a}, {c, a}, {c, b}, {a, a}, {c, twice}, {a, b, d, c}, {b, a, c, d}, {a, c, b, d}, {c, d, c}, {a, b, c, d, d}, late}
}

// invalids returns claims that are not valid, each with its error.
func invalids() ([][]api.Owned, []api.Errno) {
	var long []api.Owned
	for i := range 193 {
		long = append(long, claim(1+i/8, i%8, 1+i, 8))
	}
	// Only the number of the first ones is wrong.
	lists := [][]api.Owned{long, append(full(), claim(99, 7, 1, 8)), make([]api.Owned, 193), slices.Repeat(example(), 100)}
	codes := slices.Repeat([]api.Errno{api.ErrLimit}, len(lists))
	for k := range 3 {
		more := rangeOf(example(), k)
		// A number out of range comes before an order that is not ascending, also if it stands behind it.
		for _, l := range more[:len(more):len(more)] {
			more = append(more, append(slices.Clone(disordered()[k]), l...))
		}
		lists = append(lists, more...)
		codes = append(codes, slices.Repeat([]api.Errno{api.ErrRange}, len(more))...)
	}
	lists = append(lists, disordered()...)
	return lists, append(codes, slices.Repeat([]api.Errno{api.ErrOrder}, len(disordered()))...)
}

// P10.1: claims that are valid together.
func TestCheckValid(t *testing.T) {
	for i, l := range valids() {
		if got := identify.Check(l); got != api.OK {
			t.Errorf("%d: Check(%v) is %d", i, l, got)
		}
	}
	spread := []api.Owned{}
	for i := range 192 {
		spread = append(spread, claim(1+i/2, i%2*7, 1, 8))
	}
	for i, l := range [][]api.Owned{
		spread,
		{claim(1, 0, 1, 8), claim(1, 7, 256, 64), claim(99, 0, 1, 16), claim(99, 7, 256, 32)},
		// One router may claim one identifier in several subdomains, and several routers one in a single subdomain.
		{claim(4, 1, 9, 8), claim(4, 2, 9, 8), claim(5, 1, 9, 64)},
		// The order of subdomains starts anew with each router.
		{claim(4, 7, 9, 8), claim(5, 0, 8, 8)},
	} {
		if got := identify.Check(l); got != api.OK {
			t.Errorf("%d: Check(%v) is %d", i, l, got)
		}
	}
}

// P10.1: the first error that applies.
func TestCheckErrors(t *testing.T) {
	lists, codes := invalids()
	for i, l := range lists {
		if got := identify.Check(l); got != codes[i] {
			t.Errorf("%d: Check(%v) is %d, not %d", i, l, got, codes[i])
		}
	}
}

// P10.1: every length is looked at.
func TestCheckLengths(t *testing.T) {
	for n := -70; n <= 300; n++ {
		valid := slices.Contains(lengths, n)
		if got := identify.Check([]api.Owned{claim(1, 0, 1, n)}); (got == api.OK) != valid || !valid && got != api.ErrRange {
			t.Errorf("with the Length %d, Check is %d", n, got)
		}
		if got := identify.ValidPlan(plan(n, 1, 1)); got != valid {
			t.Errorf("with the Length %d and an edge, ValidPlan is %t", n, got)
		}
		if got := identify.ValidPlan(plan(n)); got != (valid || n == 0) {
			t.Errorf("with the Length %d and no edges, ValidPlan is %t", n, got)
		}
	}
}

// P10.1: plans that are valid.
func TestValidPlan(t *testing.T) {
	for i, p := range append(plans(), great(random(12), 8)) {
		if !identify.ValidPlan(p) {
			t.Errorf("%d: %v is not valid", i, p)
		}
		for n := -3; n < 20; n++ {
			q := p
			q.Subdomain = n
			if got := identify.ValidPlan(q); got != (0 <= n && n <= 7) {
				t.Errorf("%d: with the subdomain %d, ValidPlan is %t", i, n, got)
			}
		}
	}
}

// wrongPlans returns plans that are not valid.
func wrongPlans() []api.Plan {
	var l []api.Plan
	for _, n := range append([]int{8, 16}, far...) {
		p := plan(8, 1, 1, 2, 2)
		p.Subdomain = n
		l = append(l, p)
	}
	for _, n := range append([]int{1, 4, 7, 9, 24, 63, 65, 128}, far...) {
		l = append(l, plan(n), plan(n, 1, 1))
	}
	for _, n := range append([]int{0, 100, 128}, far...) {
		l = append(l, plan(8, n, 1), plan(8, n, 1, 2, 2), plan(8, 1, 1, n, 2), plan(8, 1, 1, n, 2, 3, 3))
	}
	for _, n := range append([]int{0, 512}, far...) {
		l = append(l, plan(8, 1, n), plan(8, 1, n, 2, 2), plan(8, 1, 1, 2, n), plan(8, 1, 1, 2, n, 3, 3))
	}
	// Without a length, with a router twice, with identifiers that are equal or descend, and with an edge too many.
	l = append(l, plan(0, 1, 1), plan(8, 1, 1, 1, 2), plan(8, 1, 1, 2, 2, 1, 3), plan(8, 3, 1, 2, 2, 2, 3), plan(8, 99, 1, 2, 2, 99, 3))
	l = append(l, plan(8, 1, 2, 2, 1), plan(8, 1, 1, 2, 1), plan(8, 1, 1, 2, 3, 3, 2), plan(8, 1, 2, 2, 1, 3, 3), plan(8, 1, 1, 1, 1))
	more := great(random(13), 8)
	more.Edges = append(more.Edges, api.Edge{Router: 1, ID: 256})
	return append(l, more)
}

// P10.1: plans that are not valid.
func TestValidPlanWrong(t *testing.T) {
	for i, p := range wrongPlans() {
		if identify.ValidPlan(p) {
			t.Errorf("%d: %v is valid", i, p)
		}
	}
}

// subdomains returns the numbers of all subdomains, and others.
func subdomains() []int { return append([]int{0, 1, 2, 3, 4, 5, 6, 7, 8, 16}, far...) }

// P10.2: the identifiers in conflict.
func TestConflicts(t *testing.T) {
	for i, l := range valids() {
		for _, s := range subdomains() {
			if got, want := identify.Conflicts(l, s), conflicts(l, s); !slices.Equal(got, want) {
				t.Errorf("%d: Conflicts in %d is %v, not %v", i, s, got, want)
			}
		}
	}
	l := []api.Owned{claim(1, 0, 5, 8), claim(1, 1, 5, 8), claim(2, 1, 5, 8), claim(3, 0, 256, 8), claim(3, 1, 1, 8), claim(4, 0, 256, 8), claim(4, 1, 5, 8), claim(5, 1, 1, 8)}
	for s, want := range [][]int{{256}, {1, 5}, nil} {
		if got := identify.Conflicts(l, s); !slices.Equal(got, want) {
			t.Errorf("Conflicts in %d is %v, not %v", s, got, want)
		}
	}
}

// P10.2: the least length.
func TestLength(t *testing.T) {
	for i, l := range valids() {
		for _, s := range subdomains() {
			want := 0
			if list := of(l, s); len(list) > 0 {
				want = slices.MinFunc(list, func(a, b api.Owned) int { return cmp.Compare(a.Claim.Length, b.Claim.Length) }).Claim.Length
			}
			if got := identify.Length(l, s); got != want {
				t.Errorf("%d: Length of %d is %d, not %d", i, s, got, want)
			}
		}
	}
	l := []api.Owned{claim(1, 0, 5, 64), claim(1, 1, 5, 8), claim(2, 0, 6, 16), claim(2, 1, 5, 64), claim(3, 0, 7, 32), claim(3, 3, 5, 64)}
	for s, want := range []int{16, 8, 0, 64, 0} {
		if got := identify.Length(l, s); got != want {
			t.Errorf("Length of %d is %d, not %d", s, got, want)
		}
	}
}

// P10.2: the least identifier that is free.
func TestFree(t *testing.T) {
	for i, l := range valids() {
		for _, s := range subdomains() {
			want := 1
			for len(claimers(l, s, want)) > 0 {
				want++
			}
			if got, ok := identify.Free(l, s); got != want || !ok {
				t.Errorf("%d: Free in %d is %d, %t, not %d", i, s, got, ok, want)
			}
		}
	}
	var l []api.Owned
	for router := 1; router <= 99; router++ {
		l = append(l, claim(router, 4, 100-router, 8))
	}
	// All claims that there can be for one subdomain leave some identifiers.
	if got, ok := identify.Free(l, 4); got != 100 || !ok {
		t.Errorf("Free is %d, %t", got, ok)
	}
	l[90].Claim.ID = 200
	if got, ok := identify.Free(l, 4); got != 9 || !ok {
		t.Errorf("Free is %d, %t", got, ok)
	}
}

// P10.2: zero values for claims that are not valid.
func TestInvalidClaims(t *testing.T) {
	lists, _ := invalids()
	for i, l := range lists {
		for s := range 8 {
			conflicting, length := identify.Conflicts(l, s), identify.Length(l, s)
			if id, ok := identify.Free(l, s); len(conflicting) != 0 || length != 0 || id != 0 || ok {
				t.Errorf("%d: in %d, Conflicts is %v, Length %d, Free %d, %t", i, s, conflicting, length, id, ok)
			}
		}
	}
}

// planned returns the plan of a subdomain, by the definition.
func planned(l []api.Owned, subdomain int) api.Plan {
	p := api.Plan{Subdomain: subdomain, Length: identify.Length(l, subdomain)}
	for id := 1; id <= 256; id++ {
		if routers := claimers(l, subdomain, id); len(routers) == 1 {
			p.Edges = append(p.Edges, api.Edge{Router: routers[0], ID: id})
		}
	}
	return p
}

// P10.3: the plan of a subdomain.
func TestPlan(t *testing.T) {
	for i, l := range valids() {
		for s := range 8 {
			want, code := planned(l, s), api.OK
			if len(want.Edges) > 24 {
				want, code = api.Plan{}, api.ErrLimit
			}
			if got, e := identify.Plan(l, s); !samePlan(got, want) || e != code {
				t.Errorf("%d: Plan of %d is %v, %d, not %v, %d", i, s, got, e, want, code)
			}
		}
	}
}

// P10.3: plans of known claims.
func TestPlanKnown(t *testing.T) {
	l := []api.Owned{
		claim(1, 3, 9, 64), claim(1, 7, 256, 64), claim(2, 3, 7, 8), claim(3, 3, 7, 64),
		claim(4, 0, 5, 32), claim(4, 3, 1, 16), claim(5, 0, 5, 64), claim(99, 3, 8, 16), claim(99, 7, 1, 64),
	}
	for i, want := range []api.Plan{
		{Subdomain: 7, Length: 64, Edges: []api.Edge{{Router: 99, ID: 1}, {Router: 1, ID: 256}}},
		// The claims for 7 are in conflict; their lengths count.
		{Subdomain: 3, Length: 8, Edges: []api.Edge{{Router: 4, ID: 1}, {Router: 99, ID: 8}, {Router: 1, ID: 9}}},
		{Subdomain: 0, Length: 32},
		{Subdomain: 5},
	} {
		if got, e := identify.Plan(l, want.Subdomain); !samePlan(got, want) || e != api.OK {
			t.Errorf("%d: Plan is %v, %d, not %v", i, got, e, want)
		}
	}
	want := api.Plan{Length: 8, Edges: []api.Edge{{Router: 3, ID: 1}}}
	if got, e := identify.Plan(example(), 0); !samePlan(got, want) || e != api.OK {
		t.Errorf("Plan of the example is %v, %d", got, e)
	}
}

// P10.3: no more than 24 edges.
func TestPlanLimit(t *testing.T) {
	for n := 20; n <= 99; n++ {
		var l []api.Owned
		for router := 1; router <= n; router++ {
			l = append(l, claim(router, 2, 1+router, 8))
		}
		p, e := identify.Plan(l, 2)
		if n <= 24 && (e != api.OK || len(p.Edges) != n) || n > 24 && (e != api.ErrLimit || !samePlan(p, api.Plan{})) {
			t.Errorf("Plan of %d claims is %v, %d", n, p, e)
		}
		// Claims that are in conflict are no edges; nor are those for other subdomains.
		for k := 24; k < n; k++ {
			l[k].Claim.ID = 200
		}
		p, e = identify.Plan(l, 2)
		// A single one is in no conflict.
		if n == 25 && e != api.ErrLimit || n != 25 && (e != api.OK || len(p.Edges) != min(n, 24)) {
			t.Errorf("Plan of %d claims, some in conflict, is %v, %d", n, p, e)
		}
		for k := 24; k < n; k++ {
			l[k] = claim(1+k, 6, 1+k, 8)
		}
		if p, e = identify.Plan(l, 2); e != api.OK || len(p.Edges) != min(n, 24) {
			t.Errorf("Plan of %d claims for two subdomains is %v, %d", n, p, e)
		}
	}
}

// P10.3: the first error that applies.
func TestPlanErrors(t *testing.T) {
	lists, codes := invalids()
	for i, l := range lists {
		for _, s := range subdomains() {
			if got, e := identify.Plan(l, s); !samePlan(got, api.Plan{}) || e != codes[i] {
				t.Errorf("%d: Plan of %d is %v, %d, not %d", i, s, got, e, codes[i])
			}
		}
	}
	for _, s := range append([]int{8, 9, 16}, far...) {
		for i, l := range [][]api.Owned{nil, example(), full(), crowd(random(3), 99, 7, 1, 256)} {
			if got, e := identify.Plan(l, s); !samePlan(got, api.Plan{}) || e != api.ErrRange {
				t.Errorf("%d: Plan of %d is %v, %d", i, s, got, e)
			}
		}
	}
}

// resolved returns the claims after the conflicts of a subdomain are settled, by the definition.
func resolved(l []api.Owned, subdomain int) []api.Owned {
	list := slices.Clone(l)
	var got []int
	for i, o := range l {
		if o.Claim.Subdomain != subdomain || slices.Min(claimers(l, subdomain, o.Claim.ID)) == o.Router {
			continue
		}
		id := 1
		for len(claimers(l, subdomain, id)) > 0 || slices.Contains(got, id) {
			id++
		}
		got = append(got, id)
		list[i].Claim.ID = id
	}
	return list
}

// P10.4: conflicts are settled.
func TestResolve(t *testing.T) {
	for i, l := range valids() {
		for _, s := range subdomains() {
			want := resolved(l, s)
			if got, e := identify.Resolve(l, s); !slices.Equal(got, want) || e != api.OK {
				t.Errorf("%d: Resolve of %d is %v, %d, not %v", i, s, got, e, want)
			}
		}
	}
}

// P10.4: known conflicts.
func TestResolveKnown(t *testing.T) {
	l := example()
	l[1].Claim.ID = 2
	if got, e := identify.Resolve(example(), 0); !slices.Equal(got, l) || e != api.OK {
		t.Errorf("Resolve of the example is %v, %d", got, e)
	}
	// Router 3 has 2 and router 4 has 1, so that router 2 gets 3; what router 5 claimed is free for nobody.
	before := []api.Owned{
		claim(1, 1, 7, 64), claim(1, 2, 7, 8), claim(2, 1, 7, 32), claim(2, 2, 7, 8),
		claim(3, 1, 2, 16), claim(4, 1, 1, 8), claim(5, 1, 4, 8), claim(6, 1, 4, 64), claim(7, 1, 7, 8),
	}
	after := slices.Clone(before)
	after[2].Claim.ID, after[7].Claim.ID, after[8].Claim.ID = 3, 5, 6
	if got, e := identify.Resolve(before, 1); !slices.Equal(got, after) || e != api.OK {
		t.Errorf("Resolve is %v, %d, not %v", got, e, after)
	}
	// All routers claim one identifier: as many conflicts as there can be.
	for _, id := range []int{1, 50, 99, 100, 256} {
		var same, own []api.Owned
		free := 1
		for router := 1; router <= 99; router++ {
			same = append(same, claim(router, 6, id, 8))
			if router == 1 {
				own = append(own, claim(router, 6, id, 8))
				continue
			}
			if free == id {
				free++
			}
			own = append(own, claim(router, 6, free, 8))
			free++
		}
		if got, e := identify.Resolve(same, 6); !slices.Equal(got, own) || e != api.OK {
			t.Errorf("Resolve of claims for %d is %v, %d", id, got, e)
		}
	}
}

// P10.4: the error of Check, whatever the subdomain.
func TestResolveErrors(t *testing.T) {
	lists, codes := invalids()
	for i, l := range lists {
		for _, s := range subdomains() {
			if got, e := identify.Resolve(l, s); len(got) != 0 || e != codes[i] {
				t.Errorf("%d: Resolve of %d is %v, %d, not %d", i, s, got, e, codes[i])
			}
		}
	}
}

// P10.5: all places of all identifiers, and P10.7: At undoes Place.
func TestPlace(t *testing.T) {
	for _, length := range lengths {
		set, bit := 0, 0
		for id := 1; id <= 256; id++ {
			if s, b, ok := identify.Place(id, length); s != set || b != bit || !ok {
				t.Errorf("Place(%d, %d) is %d, %d, %t, not %d, %d", id, length, s, b, ok, set, bit)
			}
			if got, ok := identify.At(set, bit, length); got != id || !ok {
				t.Errorf("At(%d, %d, %d) is %d, %t, not %d", set, bit, length, got, ok, id)
			}
			if bit++; bit == length {
				set, bit = set+1, 0
			}
		}
		for _, id := range append([]int{0, 258, 512}, far...) {
			if s, b, ok := identify.Place(id, length); s != 0 || b != 0 || ok {
				t.Errorf("Place(%d, %d) is %d, %d, %t", id, length, s, b, ok)
			}
		}
	}
	for _, length := range append([]int{0, 1, 4, 7, 9, 24, 63, 65, 128, 256}, far...) {
		for _, id := range []int{0, 1, 8, 9, 256, 257} {
			if s, b, ok := identify.Place(id, length); s != 0 || b != 0 || ok {
				t.Errorf("Place(%d, %d) is %d, %d, %t", id, length, s, b, ok)
			}
		}
	}
}

// P10.5: At for all sets and bits.
func TestAt(t *testing.T) {
	numbers := slices.Clone(far)
	for n := range 70 {
		numbers = append(numbers, n)
	}
	for _, length := range append([]int{0, 1, 4, 7, 8, 9, 15, 16, 24, 32, 63, 64, 65, 128}, far...) {
		for _, set := range numbers {
			for _, bit := range numbers {
				want, valid := 0, slices.Contains(lengths, length) && 0 <= bit && bit < length && 0 <= set && set <= 31
				if valid = valid && set*length+bit < 256; valid {
					want = set*length + bit + 1
				}
				if got, ok := identify.At(set, bit, length); got != want || ok != valid {
					t.Errorf("At(%d, %d, %d) is %d, %t, not %d", set, bit, length, got, ok, want)
				}
			}
		}
	}
}

// chosen returns some of the identifiers of a plan.
func chosen(next func(int) int, p api.Plan, thin int) []int {
	var ids []int
	for _, e := range p.Edges {
		if next(thin) == 0 {
			ids = append(ids, e.ID)
		}
	}
	return ids
}

// setsOf returns the bits of identifiers by sets, by the definition.
func setsOf(ids []int, length int) []api.SetBits {
	var l []api.SetBits
	for set := range 32 {
		var bits uint64
		for bit := range length {
			if slices.Contains(ids, set*length+bit+1) {
				bits |= 1 << bit
			}
		}
		if bits != 0 {
			l = append(l, api.SetBits{Set: set, Bits: bits})
		}
	}
	return l
}

// P10.6: the bits of identifiers, and P10.7: Names of all Sets together are the identifiers.
func TestSets(t *testing.T) {
	next := random(14)
	for i, p := range plans() {
		for thin := 1; thin <= 4; thin++ {
			ids := chosen(next, p, thin)
			want := setsOf(ids, p.Length)
			got, e := identify.Sets(p, ids)
			if !slices.Equal(got, want) || e != api.OK {
				t.Errorf("%d: Sets of %v is %v, %d, not %v", i, ids, got, e, want)
			}
			var all []int
			for _, s := range got {
				names, e := identify.Names(p, s)
				if e != api.OK {
					t.Errorf("%d: Names of %v is %d", i, s, e)
				}
				all = append(all, names...)
			}
			if !slices.Equal(all, ids) {
				t.Errorf("%d: Names of all Sets of %v are %v", i, ids, all)
			}
		}
	}
}

// P10.6: known identifiers.
func TestSetsKnown(t *testing.T) {
	numbers := []int{5, 1, 4, 8, 3, 9, 2, 64, 1, 65, 99, 256}
	for i, c := range []struct {
		length int
		ids    []int
		want   []api.SetBits
	}{
		{8, []int{1, 8, 9}, []api.SetBits{{Set: 0, Bits: 129}, {Set: 1, Bits: 1}}},
		{8, []int{64, 65, 256}, []api.SetBits{{Set: 7, Bits: 128}, {Set: 8, Bits: 1}, {Set: 31, Bits: 128}}},
		{16, []int{1, 8, 9, 256}, []api.SetBits{{Set: 0, Bits: 385}, {Set: 15, Bits: 1 << 15}}},
		{32, []int{9, 64, 65}, []api.SetBits{{Set: 0, Bits: 256}, {Set: 1, Bits: 1 << 31}, {Set: 2, Bits: 1}}},
		{64, []int{1, 64, 65, 256}, []api.SetBits{{Set: 0, Bits: 1<<63 + 1}, {Set: 1, Bits: 1}, {Set: 3, Bits: 1 << 63}}},
		{8, nil, nil},
		{64, []int{}, nil},
	} {
		if got, e := identify.Sets(plan(c.length, numbers...), c.ids); !slices.Equal(got, c.want) || e != api.OK {
			t.Errorf("%d: Sets of %v is %v, %d, not %v", i, c.ids, got, e, c.want)
		}
	}
	for i, p := range []api.Plan{{}, plan(0), plan(8)} {
		if got, e := identify.Sets(p, nil); len(got) != 0 || e != api.OK {
			t.Errorf("%d: Sets is %v, %d", i, got, e)
		}
	}
}

// P10.6: the first error of Sets that applies.
func TestSetsErrors(t *testing.T) {
	p := plan(8, 5, 1, 4, 8, 3, 9)
	for i, ids := range [][]int{{8, 1}, {1, 1}, {1, 8, 8}, {9, 2}, {2, 1}, {3, 3}, {0, -1}, {1, 9, 8}, {8, 1, 9}, {math.MaxInt, math.MinInt}, {1, 8, 9, 0}, {257, 1, 8}} {
		if got, e := identify.Sets(p, ids); len(got) != 0 || e != api.ErrOrder {
			t.Errorf("%d: Sets of %v is %v, %d", i, ids, got, e)
		}
	}
	for _, n := range append([]int{0, 2, 3, 7, 10, 16, 255, 256}, far...) {
		ids := []int{1, 8, 9, n}
		slices.Sort(ids)
		for i, l := range [][]int{{n}, ids} {
			if got, e := identify.Sets(p, l); len(got) != 0 || e != api.ErrUnknown {
				t.Errorf("%d: Sets of %v is %v, %d", i, l, got, e)
			}
			if got, e := identify.Sets(api.Plan{}, l); len(got) != 0 || e != api.ErrUnknown {
				t.Errorf("%d: without edges, Sets of %v is %v, %d", i, l, got, e)
			}
		}
	}
	for i, p := range wrongPlans() {
		for _, ids := range [][]int{nil, {1}, {1, 2}, {2, 1}, {200}} {
			if got, e := identify.Sets(p, ids); len(got) != 0 || e != api.ErrInvalid {
				t.Errorf("%d: Sets of %v is %v, %d", i, ids, got, e)
			}
		}
	}
}

// P10.6: the identifiers of bits, and every bit that stands for no edge.
func TestNames(t *testing.T) {
	next := random(15)
	for i, p := range plans() {
		for set := range 33 {
			var bits uint64
			var want []int
			for _, e := range p.Edges {
				if (e.ID-1)/p.Length == set && next(3) != 0 {
					bits |= 1 << ((e.ID - 1) % p.Length)
					want = append(want, e.ID)
				}
			}
			if got, e := identify.Names(p, api.SetBits{Set: set, Bits: bits}); !slices.Equal(got, want) || e != api.OK {
				t.Errorf("%d: Names of %d, %b is %v, %d, not %v", i, set, bits, got, e, want)
			}
			for bit := range 64 {
				id := set*p.Length + bit + 1
				if bit < p.Length && slices.ContainsFunc(p.Edges, func(e api.Edge) bool { return e.ID == id }) {
					continue
				}
				if got, e := identify.Names(p, api.SetBits{Set: set, Bits: bits | 1<<bit}); len(got) != 0 || e != api.ErrUnknown {
					t.Errorf("%d: Names of %d, %b with %d is %v, %d", i, set, bits, bit, got, e)
				}
			}
		}
	}
}

// P10.6: known bits, and sets that do not exist.
func TestNamesKnown(t *testing.T) {
	p := plan(8, 5, 1, 4, 8, 3, 9, 2, 64, 1, 65, 99, 256)
	for i, c := range []struct {
		set  int
		bits uint64
		want []int
		code api.Errno
	}{
		{0, 129, []int{1, 8}, api.OK}, {0, 128, []int{8}, api.OK}, {1, 1, []int{9}, api.OK}, {31, 128, []int{256}, api.OK}, {0, 0, nil, api.OK}, {2, 0, nil, api.OK},
		{0, 131, nil, api.ErrUnknown}, {0, 256, nil, api.ErrUnknown}, {0, 257, nil, api.ErrUnknown}, {1, 128, nil, api.ErrUnknown}, {2, 1, nil, api.ErrUnknown}, {31, 1<<63 + 128, nil, api.ErrUnknown}, {32, 1, nil, api.ErrUnknown}, {0, math.MaxUint64, nil, api.ErrUnknown},
	} {
		if got, e := identify.Names(p, api.SetBits{Set: c.set, Bits: c.bits}); !slices.Equal(got, c.want) || e != c.code {
			t.Errorf("%d: Names is %v, %d", i, got, e)
		}
	}
	for _, set := range append([]int{32, 33, 64}, far...) {
		// No bits stand for nothing, in whichever set.
		if got, e := identify.Names(p, api.SetBits{Set: set}); len(got) != 0 || e != api.OK {
			t.Errorf("Names of no bits in %d is %v, %d", set, got, e)
		}
		for bit := range 64 {
			if got, e := identify.Names(p, api.SetBits{Set: set, Bits: 1 << bit}); len(got) != 0 || e != api.ErrUnknown {
				t.Errorf("Names of %d in %d is %v, %d", bit, set, got, e)
			}
		}
	}
	for i, p := range wrongPlans() {
		for bits := range uint64(4) {
			if got, e := identify.Names(p, api.SetBits{Bits: bits}); len(got) != 0 || e != api.ErrInvalid {
				t.Errorf("%d: Names of %d is %v, %d", i, bits, got, e)
			}
		}
	}
}

// P10.7: after Resolve there are no conflicts, routers that were in none keep their identifiers, and Resolve changes nothing more.
func TestResolveConsequences(t *testing.T) {
	for i, l := range valids() {
		for s := range 8 {
			after, e := identify.Resolve(l, s)
			if e != api.OK || identify.Check(after) != api.OK || len(identify.Conflicts(after, s)) > 0 {
				t.Errorf("%d: after Resolve of %d, the conflicts are %v, and Check is %d", i, s, identify.Conflicts(after, s), identify.Check(after))
			}
			before := conflicts(l, s)
			for k, o := range l {
				if !slices.Contains(before, o.Claim.ID) && after[k] != o {
					t.Errorf("%d: Resolve of %d makes %v from %v", i, s, after[k], o)
				}
			}
			if again, e := identify.Resolve(after, s); e != api.OK || !slices.Equal(again, after) {
				t.Errorf("%d: Resolve of %d changes again: %v, %d", i, s, again, e)
			}
		}
	}
}

// P10.7: Plan does not name a router twice, nor an identifier in conflict.
func TestPlanConsequences(t *testing.T) {
	for i, l := range valids() {
		for s := range 8 {
			p, e := identify.Plan(l, s)
			if e != api.OK {
				continue
			}
			if !identify.ValidPlan(p) {
				t.Errorf("%d: the plan of %d is not valid", i, s)
			}
			against := identify.Conflicts(l, s)
			var routers []int
			for _, edge := range p.Edges {
				if slices.Contains(routers, edge.Router) || slices.Contains(against, edge.ID) {
					t.Errorf("%d: the plan of %d has the edge %v", i, s, edge)
				}
				routers = append(routers, edge.Router)
			}
		}
	}
}

// R5, R6: arguments stay as they are, equal ones give equal results, and results share no memory with them.
func TestMemory(t *testing.T) {
	for i, l := range valids() {
		kept := slices.Clone(l)
		for s := range 8 {
			identify.Conflicts(l, s)
			identify.Free(l, s)
			p, _ := identify.Plan(l, s)
			got, _ := identify.Resolve(l, s)
			if !slices.Equal(l, kept) {
				t.Fatalf("%d: the claims change", i)
			}
			again, _ := identify.Resolve(l, s)
			for k := range got {
				got[k] = api.Owned{}
			}
			got = append(got, api.Owned{})
			if !slices.Equal(l, kept) || !slices.Equal(again, resolved(kept, s)) {
				t.Errorf("%d: Resolve shares memory", i)
			}
			if q, _ := identify.Plan(l, s); !samePlan(p, q) {
				t.Errorf("%d: Plan of %d is %v, then %v", i, s, p, q)
			}
		}
	}
	p := plan(8, 5, 1, 4, 8, 3, 9)
	kept, ids := plan(8, 5, 1, 4, 8, 3, 9), []int{1, 8, 9}
	sets, _ := identify.Sets(p, ids)
	names, _ := identify.Names(p, sets[0])
	names[0], sets[0] = 100, api.SetBits{}
	if !samePlan(p, kept) || !slices.Equal(ids, []int{1, 8, 9}) {
		t.Errorf("Sets or Names changes its arguments: %v, %v", p, ids)
	}
}
