package database_test

import (
	"bytes"
	"cmp"
	"math"
	"slices"
	"testing"

	"bitcast/advert"
	"bitcast/api"
	"bitcast/database"
	"bitcast/topology"
)

// far has numbers that are no routers, some of which seem to be one if only their lowest bits are looked at.
var far = []int{math.MinInt, math.MinInt + 1, -1 << 32, -1<<32 + 1, -1, 0, 100, 129, 257, 1<<32 + 1, 1<<32 + 2, math.MaxInt}

// random returns a fixed sequence of numbers below n, so that each run of the tests is the same.
func random(seed uint64) func(n int) int {
	return func(n int) int {
		seed = seed*6364136223846793005 + 1442695040888963407
		return int(seed >> 33 % uint64(n))
	}
}

// chosen returns n numbers from 1 to 99, ascending.
func chosen(next func(int) int, n int) []int {
	var l []int
	for id := 1; id <= 99; id++ {
		// Each number is taken with the chance that leaves exactly n of them.
		if next(100-id) < n-len(l) {
			l = append(l, id)
		}
	}
	return l
}

// says returns an advert with the Seq 1 that names neighbours, all with the cost 1.
func says(router int, neighbours ...int) api.Advert {
	a := api.Advert{Router: router, Seq: 1, Capable: true}
	for _, n := range neighbours {
		a.Links = append(a.Links, api.Reach{Neighbour: n, Cost: 1})
	}
	return a
}

// of returns the database of these adverts.
func of(l ...api.Advert) api.Database { return api.Database{Adverts: l} }

// example returns the database of the chapter's example.
func example() api.Database { return of(says(1, 2, 3), says(2, 1), says(3)) }

// sorted returns the database of adverts, put in order.
func sorted(l []api.Advert) api.Database {
	l = slices.Clone(l)
	slices.SortStableFunc(l, func(a, b api.Advert) int { return cmp.Compare(a.Router, b.Router) })
	return of(l...)
}

// claims returns claims of random subdomains.
func claims(next func(int) int) []api.Claim {
	var l []api.Claim
	for s := next(8); s < 8; s += 1 + next(8) {
		l = append(l, api.Claim{Subdomain: s, ID: 1 + next(256), Length: 8 << next(4)})
	}
	return l
}

// joined returns the adverts of routers which each name, with one chance in thin, any other one, and, with one chance in gaps, fail to name one that names them.
func joined(next func(int) int, ids []int, thin, gaps int) []api.Advert {
	l := make([]api.Advert, len(ids))
	for i, id := range ids {
		l[i] = api.Advert{Router: id, Seq: 1 + next(1000000), Capable: next(3) != 0, Claims: claims(next)}
	}
	name := func(a *api.Advert, b int) {
		if len(a.Links) < 23 && next(gaps) != 0 {
			a.Links = append(a.Links, api.Reach{Neighbour: b, Cost: 1 + next(1000), Capacity: next(1001)})
		}
	}
	// Pairs are in an order in which the neighbours of each router come ascending.
	for j := range l {
		for i := range j {
			if next(thin) == 0 {
				name(&l[i], l[j].Router)
				name(&l[j], l[i].Router)
			}
		}
	}
	return l
}

// some returns a valid database of n adverts in several parts, which also name routers that have no adverts.
func some(next func(int) int, n int) api.Database {
	var l []api.Advert
	ids := chosen(next, n)
	for len(ids) > 0 {
		size := 1 + next(min(len(ids), 26))
		// A part has every second or third number, so that the parts lie within each other.
		var part, rest []int
		for _, id := range ids {
			if len(part) < size && next(3) != 0 {
				part = append(part, id)
			} else {
				rest = append(rest, id)
			}
		}
		l = append(l, joined(next, part, 1+next(8), 2+next(12))...)
		ids = rest
	}
	for i := range l {
		l[i] = stray(next, l[i])
	}
	return sorted(l)
}

// stray returns an advert that may name one more router.
func stray(next func(int) int, a api.Advert) api.Advert {
	other := 1 + next(99)
	named := slices.ContainsFunc(a.Links, func(l api.Reach) bool { return l.Neighbour == other })
	if len(a.Links) == 23 || named || other == a.Router {
		return a
	}
	a.Links = append(slices.Clone(a.Links), api.Reach{Neighbour: other, Cost: 1 + next(1000), Capacity: next(1001)})
	slices.SortFunc(a.Links, func(l, m api.Reach) int { return cmp.Compare(l.Neighbour, m.Neighbour) })
	return a
}

// full returns a valid database with adverts of all routers.
func full(seq int) api.Database {
	var d api.Database
	for id := 1; id <= 99; id++ {
		a := says(id)
		a.Seq = seq
		d.Adverts = append(d.Adverts, a)
	}
	return d
}

// valids returns valid databases of all sizes.
func valids() []api.Database {
	next := random(1)
	l := []api.Database{{}, {Adverts: []api.Advert{}}, example(), of(says(99, 1)), of(says(1), says(99)), full(1), full(1000000)}
	for n := 1; n <= 99; n++ {
		for range 3 {
			l = append(l, some(next, n))
		}
	}
	return l
}

// wrongs returns adverts that are not valid, for several reasons, of the router 2 as far as they have one.
func wrongs() []api.Advert {
	many := says(2)
	many.Links = make([]api.Reach, 24)
	return []api.Advert{
		{}, {Router: 2}, {Seq: 1}, {Router: 100, Seq: 1}, {Router: -1, Seq: 1}, {Router: 2, Seq: 1000001}, {Router: 2, Seq: -1}, many,
		says(2, 2), says(2, 3, 1), says(2, 1, 1), says(2, 0), says(2, 100),
		{Router: 2, Seq: 1, Links: []api.Reach{{Neighbour: 1}}},
		{Router: 2, Seq: 1, Links: []api.Reach{{Neighbour: 1, Cost: 1, Capacity: 1001}}},
		{Router: 2, Seq: 1, Claims: []api.Claim{{ID: 1, Length: 9}}},
		{Router: 2, Seq: 1, Claims: []api.Claim{{ID: 1, Length: 8}, {ID: 2, Length: 8}}},
		{Router: 2, Seq: 1, Claims: make([]api.Claim, 9)},
	}
}

// spoiled is a database with the error that Check must find.
type spoiled struct {
	name     string
	database api.Database
	want     api.Errno
}

// invalids returns databases that are not valid, for all reasons, alone and together.
func invalids() []spoiled {
	l := []spoiled{
		{"too many adverts that are not valid", of(make([]api.Advert, 100)...), api.ErrLimit},
		{"very many adverts", of(make([]api.Advert, 100000)...), api.ErrLimit},
		{"one router twice, behind all", of(append(full(1).Adverts, says(99))...), api.ErrLimit},
		{"a router 100, behind all", of(append(full(1).Adverts, says(100))...), api.ErrLimit},
		{"two equal routers", of(says(1), says(1)), api.ErrOrder},
		{"two routers in the wrong order", of(says(2), says(1)), api.ErrOrder},
		{"the last two in the wrong order", of(says(1), says(3), says(2)), api.ErrOrder},
		{"ends in the wrong order", of(says(3), says(2), says(1)), api.ErrOrder},
		{"a router again, behind another one", of(says(1), says(2), says(1)), api.ErrOrder},
		{"adverts in the wrong order, one not valid", of(says(2), says(1, 1)), api.ErrInvalid},
		{"equal adverts, not valid", of(says(0), says(0)), api.ErrInvalid},
	}
	for _, a := range wrongs() {
		l = append(l,
			spoiled{"an advert that is not valid, alone", of(a), api.ErrInvalid},
			spoiled{"an advert that is not valid, first", of(a, says(3), says(4)), api.ErrInvalid},
			spoiled{"an advert that is not valid, between others", of(says(1), a, says(4)), api.ErrInvalid},
			spoiled{"an advert that is not valid, last", of(says(1), says(99), a), api.ErrInvalid},
		)
	}
	next := random(2)
	for i := range 98 {
		d := full(1)
		d.Adverts[i], d.Adverts[i+1] = d.Adverts[i+1], d.Adverts[i]
		l = append(l, spoiled{"two adverts that have changed places", d, api.ErrOrder})
		d = full(1)
		d.Adverts[i+1] = d.Adverts[i]
		l = append(l, spoiled{"an advert twice", d, api.ErrOrder})
		d = some(next, 1+i)
		d.Adverts[next(1+i)].Seq = 0
		l = append(l, spoiled{"a Seq 0", d, api.ErrInvalid})
	}
	return l
}

// copied returns an equal advert in memory of its own.
func copied(a api.Advert) api.Advert {
	a.Links = slices.Clone(a.Links)
	a.Claims = slices.Clone(a.Claims)
	return a
}

// twin returns an equal database in memory of its own.
func twin(d api.Database) api.Database {
	d.Adverts = slices.Clone(d.Adverts)
	for i, a := range d.Adverts {
		d.Adverts[i] = copied(a)
	}
	return d
}

// alike reports whether two adverts have the same fields.
func alike(a, b api.Advert) bool {
	return a.Router == b.Router && a.Seq == b.Seq && a.Capable == b.Capable && slices.Equal(a.Links, b.Links) && slices.Equal(a.Claims, b.Claims)
}

// equal reports whether two databases have the same fields.
func equal(a, b api.Database) bool { return slices.EqualFunc(a.Adverts, b.Adverts, alike) }

// equalTopology reports whether two topologies have the same fields.
func equalTopology(t, u api.Topology) bool {
	return slices.Equal(t.Routers, u.Routers) && slices.Equal(t.Links, u.Links)
}

// newer reports whether a valid advert is newer than another one of its router, by the definition.
func newer(a, b api.Advert) bool {
	x, _ := advert.Encode(a)
	y, _ := advert.Encode(b)
	return a.Seq > b.Seq || a.Seq == b.Seq && bytes.Compare(x, y) > 0
}

// byRouter returns the adverts of a valid database by their routers.
func byRouter(d api.Database) map[int]api.Advert {
	m := make(map[int]api.Advert)
	for _, a := range d.Adverts {
		m[a.Router] = a
	}
	return m
}

// ofRouters returns the database of adverts by their routers.
func ofRouters(m map[int]api.Advert) api.Database {
	var d api.Database
	for id := 1; id <= 99; id++ {
		if a, found := m[id]; found {
			d.Adverts = append(d.Adverts, a)
		}
	}
	return d
}

// merged returns the Merge of valid databases, by the definition.
func merged(a, b api.Database) api.Database {
	m := byRouter(a)
	for id, x := range byRouter(b) {
		if y, found := m[id]; !found || newer(x, y) {
			m[id] = x
		}
	}
	return ofRouters(m)
}

// naming has for each pair of routers what the first one says of the link to the second one.
type naming [100][100]struct {
	named          bool
	cost, capacity int
}

// namings returns what the adverts of a valid database name.
func namings(d api.Database) *naming {
	var n naming
	for _, a := range d.Adverts {
		for _, l := range a.Links {
			n[a.Router][l.Neighbour].named = true
			n[a.Router][l.Neighbour].cost = l.Cost
			n[a.Router][l.Neighbour].capacity = l.Capacity
		}
	}
	return &n
}

// reached returns which routers each one of a valid database reaches: over one link at first, and then over each router in turn. Routers without adverts reach themselves alone.
func reached(n *naming) *[100][100]bool {
	var r [100][100]bool
	for a := range r {
		for b := range r {
			r[a][b] = a == b || n[a][b].named && n[b][a].named
		}
	}
	for over := range r {
		for a := range r {
			for b := range r {
				if r[a][over] {
					r[a][b] = r[a][b] || r[over][b]
				}
			}
		}
	}
	return &r
}

// views returns the View of a valid database at each router, by the definition.
func views(d api.Database) *[100]api.Topology {
	var l [100]api.Topology
	n := namings(d)
	r := reached(n)
	all := byRouter(d)
	for at := range all {
		var t api.Topology
		for a := 1; a <= 99; a++ {
			if !r[at][a] {
				continue
			}
			t.Routers = append(t.Routers, api.Router{ID: a, Capable: all[a].Capable})
			for b := a + 1; b <= 99; b++ {
				if there, back := n[a][b], n[b][a]; there.named && back.named {
					t.Links = append(t.Links, api.Link{A: a, B: b, CostA: there.cost, CostB: back.cost, Capacity: min(there.capacity, back.capacity)})
				}
			}
		}
		if len(t.Routers) <= 24 && len(t.Links) <= 60 {
			l[at] = t
		}
	}
	return &l
}

// claimed returns the claims of the capable routers of a View of a database.
func claimed(d api.Database, view api.Topology) []api.Owned {
	var l []api.Owned
	all := byRouter(d)
	for _, r := range view.Routers {
		for _, c := range all[r.ID].Claims {
			if r.Capable {
				l = append(l, api.Owned{Router: r.ID, Claim: c})
			}
		}
	}
	return l
}

// P8.1: Check of valid databases, and each error in its order.
func TestCheck(t *testing.T) {
	for _, d := range valids() {
		if e := database.Check(d); e != api.OK {
			t.Errorf("Check of %v is %d", d, e)
		}
	}
	for _, c := range invalids() {
		if e := database.Check(c.database); e != c.want {
			t.Errorf("Check of a database with %s is %d; it should be %d", c.name, e, c.want)
		}
	}
	for n := range 130 {
		if e := database.Check(of(make([]api.Advert, n)...)); n > 99 && e != api.ErrLimit || n > 0 && n <= 99 && e != api.ErrInvalid {
			t.Errorf("Check of %d adverts that are not valid is %d", n, e)
		}
	}
}

// P8.1: Check of any two and three routers.
func TestCheckOrder(t *testing.T) {
	for a := 1; a <= 99; a++ {
		for b := 1; b <= 99; b++ {
			if e := database.Check(of(says(a), says(b))); (e == api.OK) != (a < b) || e != api.OK && e != api.ErrOrder {
				t.Errorf("Check of the routers %d and %d is %d", a, b, e)
			}
			if e := database.Check(of(says(50), says(a), says(b))); (e == api.OK) != (50 < a && a < b) || e != api.OK && e != api.ErrOrder {
				t.Errorf("Check of the routers 50, %d and %d is %d", a, b, e)
			}
		}
	}
}

// varied returns databases that differ in few things, most of them not valid.
func varied() []api.Database {
	l := []api.Database{{}, of(api.Advert{}), of(api.Advert{}, api.Advert{})}
	base := of(says(1, 2, 3), says(2, 1), says(3))
	base.Adverts[1].Claims = []api.Claim{{Subdomain: 1, ID: 2, Length: 8}}
	add := func(change func(d *api.Database)) {
		d := twin(base)
		change(&d)
		l = append(l, d)
	}
	add(func(d *api.Database) {})
	add(func(d *api.Database) { d.Adverts = d.Adverts[:2] })
	add(func(d *api.Database) { d.Adverts = d.Adverts[1:] })
	add(func(d *api.Database) { d.Adverts = append(d.Adverts, says(4)) })
	add(func(d *api.Database) { d.Adverts = append(d.Adverts, d.Adverts[2]) })
	add(func(d *api.Database) { d.Adverts = append(d.Adverts, api.Advert{}) })
	for i := range 3 {
		add(func(d *api.Database) { d.Adverts[i].Router = -5 })
		add(func(d *api.Database) { d.Adverts[i].Seq = 2 })
		add(func(d *api.Database) { d.Adverts[i].Seq = 0 })
		add(func(d *api.Database) { d.Adverts[i].Capable = false })
		add(func(d *api.Database) {
			d.Adverts[i].Links = append(d.Adverts[i].Links, api.Reach{Neighbour: 7, Cost: 1})
		})
		add(func(d *api.Database) { d.Adverts[i].Claims = []api.Claim{{Subdomain: 1, ID: 3, Length: 8}} })
		add(func(d *api.Database) { d.Adverts[i], d.Adverts[(i+1)%3] = d.Adverts[(i+1)%3], d.Adverts[i] })
	}
	add(func(d *api.Database) { d.Adverts[0].Links[1].Capacity = 1 })
	add(func(d *api.Database) { d.Adverts[1].Links = nil })
	add(func(d *api.Database) { d.Adverts[1].Claims = nil })
	return l
}

// P8.1: Same, also for databases that are not valid.
func TestSame(t *testing.T) {
	for i, a := range varied() {
		for j, b := range varied() {
			if got := database.Same(a, b); got != (i == j) {
				t.Errorf("Same of %v and %v is %t", a, b, got)
			}
		}
	}
	for _, d := range valids() {
		if !database.Same(d, twin(d)) {
			t.Errorf("%v is not the same as itself", d)
		}
	}
	for _, c := range invalids() {
		if !database.Same(c.database, twin(c.database)) {
			t.Errorf("a database with %s is not the same as itself", c.name)
		}
	}
}

// P8.1, R4: an empty list is the same as none.
func TestSameEmpty(t *testing.T) {
	a := says(1)
	b := copied(a)
	b.Links, b.Claims = []api.Reach{}, []api.Claim{}
	if !database.Same(of(a), of(b)) || !database.Same(api.Database{}, api.Database{Adverts: []api.Advert{}}) {
		t.Error("an empty list is not the same as none")
	}
}

// P8.1: Find of each router, and of those that are not there.
func TestFind(t *testing.T) {
	for _, d := range valids() {
		all := byRouter(d)
		for router := -1; router <= 101; router++ {
			want, there := all[router]
			if got, found := database.Find(d, router); found != there || !alike(got, want) {
				t.Errorf("Find of %d in %v is %v, %t", router, d, got, found)
			}
		}
		for _, router := range far {
			if got, found := database.Find(d, router); found || !alike(got, api.Advert{}) {
				t.Errorf("Find of %d in %v is %v, %t", router, d, got, found)
			}
		}
	}
}

// P8.1: Find in databases that are not valid returns the first of several adverts, wherever it is.
func TestFindFirst(t *testing.T) {
	first, second := says(7, 1), says(7, 2)
	second.Seq = 1000000
	wild := api.Advert{Router: -3, Seq: -4, Links: []api.Reach{{Neighbour: -5}}, Claims: []api.Claim{{Length: 3}}}
	for i, c := range []struct {
		database api.Database
		router   int
		want     api.Advert
	}{
		{of(first, second), 7, first},
		{of(second, first), 7, second},
		{of(says(9), says(8), first, says(6), second), 7, first},
		{of(says(9), first, says(1), second, says(5)), 7, first},
		{of(second, says(9), says(1), first), 7, second},
		{of(says(9), says(8), says(6), first), 7, first},
		{of(first, says(1), says(2), says(3)), 7, first},
		{of(says(1), api.Advert{Seq: 5}, api.Advert{Seq: 6}), 0, api.Advert{Seq: 5}},
		{of(says(1), wild, says(2)), -3, wild},
		{of(append(full(1).Adverts, second, api.Advert{Router: 100, Seq: 9})...), 100, api.Advert{Router: 100, Seq: 9}},
	} {
		if got, found := database.Find(c.database, c.router); !found || !alike(got, c.want) {
			t.Errorf("%d: Find is %v, %t; it should be %v", i, got, found, c.want)
		}
		if got, found := database.Find(c.database, 44); i < 9 && (found || !alike(got, api.Advert{})) {
			t.Errorf("%d: Find of a router that is not there is %v, %t", i, got, found)
		}
	}
}

// expectPut expects a result of Put.
func expectPut(t *testing.T, what string, d api.Database, a api.Advert, want api.Database, changed bool) {
	t.Helper()
	if got, put := database.Put(d, a); put != changed || !equal(got, want) {
		t.Errorf("Put of %s, %v, into %v is %v, %t; it should be %v, %t", what, a, d, got, put, want, changed)
	}
}

// P8.2: Put of adverts of new routers, at each place.
func TestPutNew(t *testing.T) {
	expectPut(t, "the first advert", api.Database{}, says(5, 6), of(says(5, 6)), true)
	d := of(says(3, 8), says(8, 3), says(20))
	expectPut(t, "the least router", d, says(1, 3), of(says(1, 3), says(3, 8), says(8, 3), says(20)), true)
	expectPut(t, "a router between", d, says(4), of(says(3, 8), says(4), says(8, 3), says(20)), true)
	expectPut(t, "a router between", d, says(19, 8), of(says(3, 8), says(8, 3), says(19, 8), says(20)), true)
	expectPut(t, "the greatest router", d, says(99), of(says(3, 8), says(8, 3), says(20), says(99)), true)
	for id := 1; id <= 99; id++ {
		all := full(3)
		rest := of(slices.Delete(full(3).Adverts, id-1, id)...)
		expectPut(t, "the last one that was missing", rest, all.Adverts[id-1], all, true)
	}
}

// P8.2: Put of adverts of routers that are there: those that are newer take their places.
func TestPutKnown(t *testing.T) {
	d := of(says(3, 8), says(8, 3), says(20))
	d.Adverts[1].Seq = 500
	later, earlier, other, less := copied(d.Adverts[1]), copied(d.Adverts[1]), copied(d.Adverts[1]), copied(d.Adverts[1])
	later.Seq, later.Links, later.Capable = 501, nil, false
	earlier.Seq, earlier.Links = 499, says(8, 1, 3, 5).Links
	other.Links[0].Cost = 2
	less.Links = nil
	expectPut(t, "a greater Seq", d, later, of(d.Adverts[0], later, d.Adverts[2]), true)
	expectPut(t, "a lesser Seq", d, earlier, d, false)
	expectPut(t, "the same advert", d, copied(d.Adverts[1]), d, false)
	expectPut(t, "a greater encoding", d, other, of(d.Adverts[0], other, d.Adverts[2]), true)
	expectPut(t, "a lesser encoding", d, less, d, false)
	for id := 1; id <= 99; id++ {
		want := full(3)
		want.Adverts[id-1].Seq = 4
		expectPut(t, "a greater Seq", full(3), want.Adverts[id-1], want, true)
		expectPut(t, "a lesser Seq", full(3), full(2).Adverts[id-1], full(3), false)
	}
}

// P8.2: Put of random adverts one after another.
func TestPutRandom(t *testing.T) {
	next := random(3)
	changes := 0
	for range 40 {
		var d api.Database
		for range 120 {
			all := joined(next, chosen(next, 2+next(10)), 2, 9)
			a := all[next(len(all))]
			a.Seq = 1 + next(3)
			m := byRouter(d)
			old, there := m[a.Router]
			put := !there || newer(a, old)
			if put {
				m[a.Router] = a
				changes++
			}
			expectPut(t, "a random advert", d, a, ofRouters(m), put)
			d, _ = database.Put(d, a)
		}
	}
	if changes < 1000 || changes > 4000 {
		t.Errorf("%d of the random adverts were put", changes)
	}
}

// P8.2: what is not valid changes nothing: neither an advert nor a database, which comes back as it is.
func TestPutInvalid(t *testing.T) {
	for _, a := range wrongs() {
		for _, d := range []api.Database{{}, example(), of(says(1), says(3)), full(1)} {
			expectPut(t, "an advert that is not valid", d, a, d, false)
		}
	}
	for _, c := range invalids() {
		for _, a := range []api.Advert{says(1), says(2, 1), says(55), says(99)} {
			a.Seq = 1000000
			expectPut(t, "a new advert into what is not valid", c.database, a, c.database, false)
		}
	}
	// Here the advert is newer than the one that is there, and only others are not as they should be.
	late := says(3)
	late.Seq = 2
	for _, d := range []api.Database{of(says(2, 2), says(3)), of(says(3), says(4), says(4)), of(says(3), says(2)), of(says(3), says(3)), of(append(full(1).Adverts, says(99))...)} {
		expectPut(t, "a newer advert into what is not valid", d, late, d, false)
	}
}

// expectMerge expects a result of Merge.
func expectMerge(t *testing.T, a, b, want api.Database) {
	t.Helper()
	if got, e := database.Merge(a, b); !equal(got, want) || e != api.OK {
		t.Errorf("Merge of %v and %v is %v, %d; it should be %v", a, b, got, e, want)
	}
}

// P8.3: Merge of databases written by hand.
func TestMergeKnown(t *testing.T) {
	later := says(2)
	later.Seq = 2
	last := says(9, 1, 2)
	last.Seq = 7
	for _, c := range [][3]api.Database{
		{{}, {}, {}},
		{of(says(4)), {}, of(says(4))},
		{of(says(1), says(3)), of(says(2), says(4)), of(says(1), says(2), says(3), says(4))},
		{of(says(3), says(4)), of(says(1), says(2)), of(says(1), says(2), says(3), says(4))},
		{of(says(1), says(2, 1)), of(later, says(3)), of(says(1), later, says(3))},
		{of(says(1), says(2)), of(says(1, 2), says(2)), of(says(1, 2), says(2))},
		{of(says(1), later, says(9)), of(says(2, 9), last), of(says(1), later, last)},
		{full(4), full(5), full(5)},
		{full(4), example(), full(4)},
		{full(1), example(), of(append(example().Adverts, full(1).Adverts[3:]...)...)},
	} {
		expectMerge(t, c[0], c[1], c[2])
		expectMerge(t, c[1], c[0], c[2])
	}
}

// related returns two valid databases that have adverts of the same routers, older, equal and newer ones.
func related(next func(int) int) (api.Database, api.Database) {
	a, b := some(next, 1+next(99)), some(next, 1+next(99))
	m := byRouter(b)
	for _, x := range a.Adverts {
		switch next(4) {
		case 0:
			m[x.Router] = x
		case 1:
			y := copied(x)
			y.Capable = !y.Capable
			m[x.Router] = y
		}
	}
	return a, ofRouters(m)
}

// P8.3, P8.6: Merge by the definition; it is commutative and idempotent, and loses no router and no newer advert.
func TestMerge(t *testing.T) {
	next := random(4)
	for range 300 {
		a, b := related(next)
		want := merged(a, b)
		expectMerge(t, a, b, want)
		expectMerge(t, b, a, want)
		expectMerge(t, a, a, a)
		expectMerge(t, want, a, want)
		expectMerge(t, b, want, want)
		expectMerge(t, a, api.Database{}, a)
		expectMerge(t, api.Database{}, b, b)
		if e := database.Check(want); e != api.OK {
			t.Errorf("Check of %v is %d", want, e)
		}
	}
}

// P8.6: Merge is associative, and gives what Put of all adverts gives.
func TestMergeAssociative(t *testing.T) {
	next := random(5)
	for range 100 {
		a, b := related(next)
		c, d := related(next)
		ab, _ := database.Merge(a, b)
		bc, _ := database.Merge(b, c)
		left, _ := database.Merge(ab, c)
		right, _ := database.Merge(a, bc)
		if !database.Same(left, right) {
			t.Errorf("Merge of %v, %v and %v depends on the order", a, b, c)
		}
		put := c
		for _, x := range d.Adverts {
			put, _ = database.Put(put, x)
		}
		expectMerge(t, c, d, put)
	}
}

// P8.3: Merge of what is not valid.
func TestMergeInvalid(t *testing.T) {
	refuse := func(what string, a, b api.Database) {
		if got, e := database.Merge(a, b); len(got.Adverts) != 0 || e != api.ErrInvalid {
			t.Errorf("Merge with %s is %v, %d", what, got, e)
		}
	}
	for _, c := range invalids() {
		refuse(c.name, c.database, api.Database{})
		refuse(c.name, api.Database{}, c.database)
		refuse(c.name, c.database, full(1))
		refuse(c.name, example(), c.database)
		refuse(c.name, c.database, c.database)
	}
}

// P8.6: a database never loses a router by Put or Merge, and its adverts never become older.
func TestNeverOlder(t *testing.T) {
	next := random(6)
	d := some(next, 20)
	expectKept := func(after api.Database) {
		if e := database.Check(after); e != api.OK {
			t.Errorf("Check of %v is %d", after, e)
		}
		for _, old := range d.Adverts {
			now, found := database.Find(after, old.Router)
			if !found || advert.Newer(old, now) {
				t.Errorf("the advert %v has become %v, %t", old, now, found)
			}
		}
		d = after
	}
	for range 60 {
		other := some(next, 1+next(6))
		for i := range other.Adverts {
			other.Adverts[i].Seq = 1 + next(1000)
			after, _ := database.Put(d, other.Adverts[i])
			expectKept(after)
		}
		after, _ := database.Merge(d, other)
		expectKept(after)
		after, _ = database.Merge(other, d)
		expectKept(after)
	}
}

// expectView expects a View.
func expectView(t *testing.T, d api.Database, at int, want api.Topology) {
	t.Helper()
	if got := database.View(d, at); !equalTopology(got, want) {
		t.Errorf("View of %v at %d is %v; it should be %v", d, at, got, want)
	}
}

// P8.4: the chapter's example: what only one end names is no link.
func TestViewExample(t *testing.T) {
	both := api.Topology{Routers: []api.Router{{ID: 1, Capable: true}, {ID: 2, Capable: true}}, Links: []api.Link{{A: 1, B: 2, CostA: 1, CostB: 1}}}
	expectView(t, example(), 1, both)
	expectView(t, example(), 2, both)
	expectView(t, example(), 3, api.Topology{Routers: []api.Router{{ID: 3, Capable: true}}})
}

// P8.4: a View written by hand: costs of both directions, the lesser capacity, and what routers are capable.
func TestViewKnown(t *testing.T) {
	d := of(
		api.Advert{Router: 2, Seq: 5, Links: []api.Reach{{Neighbour: 5, Cost: 10, Capacity: 70}, {Neighbour: 9, Cost: 11, Capacity: 1000}, {Neighbour: 50, Cost: 12}}},
		api.Advert{Router: 5, Seq: 1, Capable: true, Links: []api.Reach{{Neighbour: 2, Cost: 20, Capacity: 60}, {Neighbour: 9, Cost: 21, Capacity: 5}}},
		api.Advert{Router: 7, Seq: 1, Capable: true, Links: []api.Reach{{Neighbour: 9, Cost: 30}}},
		api.Advert{Router: 9, Seq: 9, Capable: true, Links: []api.Reach{{Neighbour: 2, Cost: 1000, Capacity: 999}, {Neighbour: 30, Cost: 41, Capacity: 42}}},
		api.Advert{Router: 30, Seq: 1, Links: []api.Reach{{Neighbour: 9, Cost: 51, Capacity: 42}, {Neighbour: 31, Cost: 52, Capacity: 53}}},
		api.Advert{Router: 41, Seq: 1, Capable: true, Links: []api.Reach{{Neighbour: 42, Cost: 3, Capacity: 1}}},
		api.Advert{Router: 42, Seq: 1, Links: []api.Reach{{Neighbour: 2, Cost: 1}, {Neighbour: 41, Cost: 4, Capacity: 2}}},
	)
	great := api.Topology{
		Routers: []api.Router{{ID: 2}, {ID: 5, Capable: true}, {ID: 9, Capable: true}, {ID: 30}},
		Links:   []api.Link{{A: 2, B: 5, CostA: 10, CostB: 20, Capacity: 60}, {A: 2, B: 9, CostA: 11, CostB: 1000, Capacity: 999}, {A: 9, B: 30, CostA: 41, CostB: 51, Capacity: 42}},
	}
	small := api.Topology{
		Routers: []api.Router{{ID: 41, Capable: true}, {ID: 42}},
		Links:   []api.Link{{A: 41, B: 42, CostA: 3, CostB: 4, Capacity: 1}},
	}
	for at := -1; at <= 101; at++ {
		switch at {
		case 2, 5, 9, 30:
			expectView(t, d, at, great)
		case 41, 42:
			expectView(t, d, at, small)
		case 7:
			expectView(t, d, at, api.Topology{Routers: []api.Router{{ID: 7, Capable: true}}})
		default:
			expectView(t, d, at, api.Topology{})
		}
	}
}

// P8.4, P8.6: View at each router by the definition; it is valid and connected, and the same for all its routers.
func TestView(t *testing.T) {
	sizes := make(map[int]int)
	for _, d := range valids() {
		want := views(d)
		var all [100]api.Topology
		for _, a := range d.Adverts {
			got := database.View(d, a.Router)
			all[a.Router] = got
			sizes[len(got.Routers)]++
			if !equalTopology(got, want[a.Router]) {
				t.Errorf("View of %v at %d is %v; it should be %v", d, a.Router, got, want[a.Router])
			}
			if topology.Check(got) != api.OK || len(topology.Components(got)) > 1 {
				t.Errorf("%v, the View at %d, is not valid and connected", got, a.Router)
			}
		}
		for at, view := range all {
			for _, r := range view.Routers {
				if !equalTopology(all[r.ID], view) {
					t.Errorf("View of %v at %d is %v, but at %d it is %v", d, at, view, r.ID, all[r.ID])
				}
			}
		}
	}
	for n := range 16 {
		if sizes[n] < 20 {
			t.Errorf("the tests have %d views of %d routers", sizes[n], n)
		}
	}
}

// P8.4: there is no View at a router that has no advert, although others name it.
func TestViewUnknown(t *testing.T) {
	for _, d := range valids() {
		all := byRouter(d)
		for _, at := range append([]int{1, 2, 50, 98, 99}, far...) {
			if _, there := all[at]; !there {
				expectView(t, d, at, api.Topology{})
			}
		}
	}
}

// P8.4: what is not valid has no View, even where the adverts around the router are as they should be.
func TestViewInvalid(t *testing.T) {
	for _, c := range invalids() {
		for at := -1; at <= 101; at++ {
			expectView(t, c.database, at, api.Topology{})
		}
	}
	for _, a := range wrongs() {
		for at := range 4 {
			expectView(t, of(append(example().Adverts, a)...), at, api.Topology{})
		}
	}
}

// ring returns the adverts of the routers from first on, each linked with the next n of them, in a ring of so many.
func ring(first, size, n int) []api.Advert {
	l := make([]api.Advert, size)
	for i := range l {
		l[i] = says(first + i)
		for j := range l {
			if d := (j - i + size) % size; d != 0 && (d <= n || size-d <= n) {
				l[i].Links = append(l[i].Links, api.Reach{Neighbour: first + j, Cost: 1 + i + j, Capacity: i})
			}
		}
	}
	return l
}

// parted returns adverts of which those with the indices i and j do not name each other any more.
func parted(l []api.Advert, i, j int) []api.Advert {
	l = twin(of(l...)).Adverts
	apart := func(i, j int) {
		l[i].Links = slices.DeleteFunc(l[i].Links, func(r api.Reach) bool { return r.Neighbour == l[j].Router })
	}
	apart(i, j)
	apart(j, i)
	return l
}

// extended returns adverts of which that with the index i and a new last one name each other.
func extended(l []api.Advert, i int) []api.Advert {
	l = twin(of(l...)).Adverts
	last := l[len(l)-1].Router + 1
	l[i].Links = append(l[i].Links, api.Reach{Neighbour: last, Cost: 7})
	return append(l, says(last, l[i].Router))
}

// P8.4: up to 24 routers and 60 links make a View; more do not, but the other parts of the database still have theirs.
func TestViewLimits(t *testing.T) {
	// In a ring in which each of 20 routers is linked with the next three there are 60 links.
	most := ring(1, 20, 3)
	for i, c := range []struct {
		adverts        []api.Advert
		routers, links int
	}{
		{ring(1, 24, 1), 24, 24},
		{ring(1, 25, 1), 0, 0},
		{ring(1, 80, 1), 0, 0},
		{ring(1, 80, 11), 0, 0},
		{ring(1, 24, 2), 24, 48},
		{ring(1, 24, 11), 0, 0},
		{ring(1, 11, 5), 11, 55},
		{ring(1, 13, 6), 0, 0},
		{most, 20, 60},
		{parted(most, 0, 3), 20, 59},
		{extended(most, 0), 0, 0},
		{extended(parted(most, 5, 6), 0), 21, 60},
		{ring(1, 15, 4), 15, 60},
		{extended(ring(1, 15, 4), 14), 0, 0},
		{parted(ring(1, 24, 1), 23, 0), 24, 23},
		{extended(parted(ring(1, 24, 1), 23, 0), 23), 0, 0},
	} {
		d := of(slices.Concat(c.adverts, ring(90, 5, 1))...)
		want := views(d)
		for _, a := range c.adverts {
			got := database.View(d, a.Router)
			if len(got.Routers) != c.routers || len(got.Links) != c.links || !equalTopology(got, want[a.Router]) {
				t.Errorf("%d: View at %d has %d routers and %d links", i, a.Router, len(got.Routers), len(got.Links))
			}
		}
		for at := 90; at < 95; at++ {
			if got := database.View(d, at); len(got.Routers) != 5 || len(got.Links) != 5 {
				t.Errorf("%d: View at %d has %d routers and %d links", i, at, len(got.Routers), len(got.Links))
			}
		}
	}
}

// P8.4: what counts is what each end names: routers at the ends of the numbers, and many that name each other only one way.
func TestViewOneWay(t *testing.T) {
	d := of(says(1, 99), says(99, 1))
	expectView(t, d, 99, api.Topology{Routers: []api.Router{{ID: 1, Capable: true}, {ID: 99, Capable: true}}, Links: []api.Link{{A: 1, B: 99, CostA: 1, CostB: 1}}})
	for _, step := range []int{1, -1} {
		// Each names those in front of it, and nobody names those behind.
		var l []api.Advert
		for id := 1; id <= 99; id++ {
			var named []int
			for i := 1; i <= 23; i++ {
				if n := id + i*step; n >= 1 && n <= 99 {
					named = append(named, n)
				}
			}
			slices.Sort(named)
			l = append(l, says(id, named...))
		}
		for id := 1; id <= 99; id++ {
			expectView(t, of(l...), id, api.Topology{Routers: []api.Router{{ID: id, Capable: true}}})
		}
	}
}

// P8.6: adverts of routers that are not linked with others change no View of these.
func TestViewUnlinked(t *testing.T) {
	next := random(7)
	for range 60 {
		d := some(next, 1+next(60))
		before := views(d)
		for range 6 {
			a := joined(next, chosen(next, 24), 1, 2)[next(24)]
			if _, there := byRouter(d)[a.Router]; there {
				continue
			}
			// Either nobody names the new router, or it names nobody.
			if slices.ContainsFunc(d.Adverts, func(b api.Advert) bool {
				return slices.ContainsFunc(b.Links, func(l api.Reach) bool { return l.Neighbour == a.Router })
			}) {
				a.Links = nil
			}
			after, put := database.Put(d, a)
			if !put {
				t.Fatalf("Put of %v into %v is false", a, d)
			}
			for _, b := range d.Adverts {
				expectView(t, after, b.Router, before[b.Router])
			}
		}
	}
}

// P8.5: Claims written by hand: those of capable routers of the View alone.
func TestClaimsKnown(t *testing.T) {
	d := of(says(1, 2, 5), says(2, 1, 3), says(3, 2), says(4, 5), says(5, 4), says(6, 1))
	d.Adverts[1].Capable = false
	for i := range d.Adverts {
		d.Adverts[i].Claims = []api.Claim{{Subdomain: 0, ID: 10 + i, Length: 8}, {Subdomain: 7, ID: 20 + i, Length: 64}}
	}
	d.Adverts[2].Claims = d.Adverts[2].Claims[1:]
	owned := func(router, subdomain, id, length int) api.Owned {
		return api.Owned{Router: router, Claim: api.Claim{Subdomain: subdomain, ID: id, Length: length}}
	}
	three := []api.Owned{owned(1, 0, 10, 8), owned(1, 7, 20, 64), owned(3, 7, 22, 64)}
	two := []api.Owned{owned(4, 0, 13, 8), owned(4, 7, 23, 64), owned(5, 0, 14, 8), owned(5, 7, 24, 64)}
	for at, want := range [][]api.Owned{nil, three, three, three, two, two, {owned(6, 0, 15, 8), owned(6, 7, 25, 64)}, nil} {
		if got := database.Claims(d, at); !slices.Equal(got, want) {
			t.Errorf("Claims at %d are %v; they should be %v", at, got, want)
		}
	}
}

// P8.5: Claims at each router by the definition, in their order.
func TestClaims(t *testing.T) {
	many := 0
	for _, d := range valids() {
		all := views(d)
		for at := range all {
			got, want := database.Claims(d, at), claimed(d, all[at])
			if !slices.Equal(got, want) {
				t.Errorf("Claims of %v at %d are %v; they should be %v", d, at, got, want)
			}
			order := func(a, b api.Owned) int {
				return cmp.Or(cmp.Compare(a.Router, b.Router), cmp.Compare(a.Claim.Subdomain, b.Claim.Subdomain))
			}
			if !slices.IsSortedFunc(got, order) {
				t.Errorf("Claims at %d are %v", at, got)
			}
			if len(got) > 8 {
				many++
			}
		}
		for _, at := range far {
			if got := database.Claims(d, at); len(got) != 0 {
				t.Errorf("Claims at %d are %v", at, got)
			}
		}
	}
	if many < 100 {
		t.Errorf("the tests have many claims %d times", many)
	}
}

// P8.5: where there is no View there are no Claims: in what is not valid, and where there is too much.
func TestClaimsNone(t *testing.T) {
	claim := func(d api.Database) api.Database {
		d = twin(d)
		for i := range d.Adverts {
			d.Adverts[i].Capable = true
			d.Adverts[i].Claims = append(d.Adverts[i].Claims[:0:0], api.Claim{ID: 1, Length: 8})
		}
		return d
	}
	for _, c := range invalids() {
		d := claim(c.database)
		if database.Check(d) == api.OK {
			continue
		}
		for at := -1; at <= 101; at++ {
			if got := database.Claims(d, at); len(got) != 0 {
				t.Errorf("Claims of a database with %s at %d are %v", c.name, at, got)
			}
		}
	}
	for _, l := range [][]api.Advert{ring(1, 25, 1), ring(1, 13, 6), ring(1, 99, 2)} {
		d := claim(of(l...))
		for _, a := range l {
			if got := database.Claims(d, a.Router); len(got) != 0 {
				t.Errorf("Claims at %d among %d routers are %v", a.Router, len(l), got)
			}
		}
	}
	if got := database.Claims(claim(of(ring(1, 24, 1)...)), 24); len(got) != 24 {
		t.Errorf("Claims of 24 routers are %v", got)
	}
}

// every returns all databases of the tests.
func every() []api.Database {
	l := append(valids(), varied()...)
	for _, c := range invalids() {
		l = append(l, c.database)
	}
	return l
}

// P8.1 to P8.5, R5, R6: arguments stay as they are, and equal ones give equal results.
func TestArgumentsStay(t *testing.T) {
	other := some(random(8), 40)
	kept := twin(other)
	late := copied(other.Adverts[20])
	late.Seq = 1000000
	keptLate := copied(late)
	for _, d := range every() {
		before := twin(d)
		check := database.Check(d)
		put, changed := database.Put(d, late)
		merge, e := database.Merge(d, other)
		found, there := database.Find(d, late.Router)
		view, owned := database.View(d, late.Router), database.Claims(d, late.Router)
		for range 2 {
			database.Same(d, other)
			database.Same(other, d)
			put2, changed2 := database.Put(d, late)
			merge2, e2 := database.Merge(d, other)
			found2, there2 := database.Find(d, late.Router)
			if database.Check(d) != check || !equal(put2, put) || changed2 != changed || !equal(merge2, merge) || e2 != e || !alike(found2, found) || there2 != there {
				t.Errorf("other results for %v", before)
			}
			if !equalTopology(database.View(d, late.Router), view) || !slices.Equal(database.Claims(d, late.Router), owned) {
				t.Errorf("other results of View or Claims for %v", before)
			}
			database.Merge(other, d)
		}
		if !equal(d, before) || !equal(other, kept) || !alike(late, keptLate) {
			t.Errorf("%v has become %v", before, d)
		}
	}
}

// overwrite changes the lists of an advert, and what may follow behind them.
func overwrite(a api.Advert) {
	for i := range a.Links {
		a.Links[i] = api.Reach{Neighbour: -1}
	}
	for i := range a.Claims {
		a.Claims[i] = api.Claim{ID: -1}
	}
	_ = append(a.Links, api.Reach{Neighbour: -2})
	_ = append(a.Claims, api.Claim{ID: -2})
}

// overwriteAll changes the lists of a database, and what may follow behind them.
func overwriteAll(d api.Database) {
	for i, a := range d.Adverts {
		overwrite(a)
		d.Adverts[i] = api.Advert{Router: -1}
	}
	_ = append(d.Adverts, api.Advert{Router: -2})
}

// roomy returns a database whose lists have room behind them, in which what is written shows.
func roomy(d api.Database) (api.Database, func() bool) {
	all := make([]api.Advert, 0, len(d.Adverts)+1)
	for _, a := range d.Adverts {
		a.Links = append(make([]api.Reach, 0, len(a.Links)+1), a.Links...)
		a.Claims = append(make([]api.Claim, 0, len(a.Claims)+1), a.Claims...)
		all = append(all, a)
	}
	clean := func() bool {
		for _, a := range all {
			n, m := len(a.Links), len(a.Claims)
			if a.Links[:n+1][n] != (api.Reach{}) || a.Claims[:m+1][m] != (api.Claim{}) {
				return false
			}
		}
		return alike(all[:len(all)+1][len(all)], api.Advert{}) && equal(of(all...), d)
	}
	return of(all...), clean
}

// P8.1 to P8.3, R5: results share no memory with arguments, nor parts of them with each other.
func TestMemory(t *testing.T) {
	late := joined(random(9), []int{2, 3, 4, 50}, 1, 100)[3]
	late.Seq = 1000000
	keptLate := copied(late)
	for _, from := range append(every(), of(late, late), of(says(50, 1, 2))) {
		d, clean := roomy(from)
		other, otherClean := roomy(example())
		put, _ := database.Put(d, late)
		same, _ := database.Put(d, api.Advert{})
		merge, _ := database.Merge(d, other)
		back, _ := database.Merge(other, d)
		twice, _ := database.Merge(d, d)
		results := []api.Database{put, same, merge, back, twice}
		for i, r := range results {
			rest := make([]api.Database, len(results))
			for j := range results {
				rest[j] = twin(results[j])
			}
			overwriteAll(r)
			for j := range results {
				if j > i && !equal(results[j], rest[j]) {
					t.Fatalf("results for %v share memory", from)
				}
			}
			if !clean() || !otherClean() || !alike(late, keptLate) {
				t.Fatalf("a result for %v shares memory with an argument", from)
			}
		}
		for router := -5; router <= 100; router++ {
			found, _ := database.Find(d, router)
			overwrite(found)
		}
		if !clean() {
			t.Fatalf("a result of Find in %v shares memory with it", from)
		}
	}
}

// P8.2, R5: the parts of a result share no memory, even where those of the argument do.
func TestMemoryParts(t *testing.T) {
	a := says(1, 8, 9)
	a.Claims = []api.Claim{{ID: 1, Length: 8}}
	b := a
	b.Router = 2
	for _, d := range []api.Database{of(a, b), of(b, a), of(a, a)} {
		put, _ := database.Put(d, says(3))
		overwrite(put.Adverts[0])
		if !alike(put.Adverts[1], d.Adverts[1]) {
			t.Errorf("the adverts of %v share memory", put)
		}
	}
	merge, _ := database.Merge(of(a), of(b))
	overwrite(merge.Adverts[0])
	if !alike(merge.Adverts[1], b) {
		t.Errorf("the adverts of %v share memory", merge)
	}
}
