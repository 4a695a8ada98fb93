package flooding_test

import (
	"cmp"
	"math"
	"slices"
	"testing"

	"bitcast/advert"
	"bitcast/api"
	"bitcast/database"
	"bitcast/flooding"
	"bitcast/topology"
)

// far has numbers that are no routers and no indices, some of which seem to be one if only their lowest bits are looked at.
var far = []int{math.MinInt, math.MinInt + 1, -1 << 32, -1<<32 + 1, -1, 100, 129, 1<<32 + 1, 1<<32 + 2, math.MaxInt}

// random returns a fixed sequence of numbers below n, so that each run of the tests is the same.
func random(seed uint64) func(n int) int {
	return func(n int) int {
		seed = seed*6364136223846793005 + 1442695040888963407
		return int(seed >> 33 % uint64(n))
	}
}

// chosen returns n numbers from 1 to 99, ascending.
func chosen(next func(int) int, n int) []int {
	var l []int
	for id := 1; id <= 99; id++ {
		// Each number is taken with the chance that leaves exactly n of them.
		if next(100-id) < n-len(l) {
			l = append(l, id)
		}
	}
	return l
}

// wires returns random links of routers: each pair with one chance in thin, up to 60.
func wires(next func(int) int, ids []int, thin int) []api.Link {
	var l []api.Link
	for i, a := range ids {
		for _, b := range ids[i+1:] {
			if next(thin) == 0 && len(l) < 60 {
				l = append(l, api.Link{A: a, B: b, CostA: 1 + next(1000), CostB: 1 + next(1000), Capacity: next(1001)})
			}
		}
	}
	return l
}

// claims returns claims of random subdomains.
func claims(next func(int) int) []api.Claim {
	var l []api.Claim
	for s := next(8); s < 8; s += 1 + next(8) {
		l = append(l, api.Claim{Subdomain: s, ID: 1 + next(256), Length: 8 << next(4)})
	}
	return l
}

// rumour returns a valid advert of a router that names any neighbours.
func rumour(next func(int) int, router, seq int) api.Advert {
	a := api.Advert{Router: router, Seq: seq, Capable: next(2) == 0, Claims: claims(next)}
	for _, n := range chosen(next, next(5)) {
		if n != router {
			a.Links = append(a.Links, api.Reach{Neighbour: n, Cost: 1 + next(1000), Capacity: next(1001)})
		}
	}
	return a
}

// ends reports whether a link joins two routers.
func ends(l api.Link, a, b int) bool { return l.A == a && l.B == b || l.A == b && l.B == a }

// joined reports whether there is a link between two routers.
func joined(links []api.Link, a, b int) bool {
	return slices.ContainsFunc(links, func(l api.Link) bool { return ends(l, a, b) })
}

// ownBy returns the own advert of a node with these links, by the definition; with the Seq 0 it is none.
func ownBy(links []api.Link, n api.Node) api.Advert {
	a := api.Advert{Router: n.Router, Seq: n.Seq, Capable: n.Capable, Claims: n.Claims}
	for other := 1; other <= 99; other++ {
		for _, l := range links {
			if !ends(l, n.Router, other) {
				continue
			}
			cost := l.CostA
			if n.Router == l.B {
				cost = l.CostB
			}
			a.Links = append(a.Links, api.Reach{Neighbour: other, Cost: cost, Capacity: l.Capacity})
		}
	}
	return a
}

// seqs returns random numbers from least to greatest, often those at the ends.
func seqs(next func(int) int, least, greatest int) func() int {
	return func() int {
		switch next(6) {
		case 0:
			return least
		case 1:
			return min(least+1, greatest)
		case 2:
			return greatest
		case 3:
			return greatest - 1
		}
		return least + next(greatest-least+1)
	}
}

// hearsay returns a database in which any routers have adverts: nodes those that are their own ones, earlier ones or others.
func hearsay(next func(int) int, f api.Flood, seq func() int) api.Database {
	var d api.Database
	thin := 1 + next(5)
	for id := 1; id <= 99; id++ {
		at := slices.IndexFunc(f.Nodes, func(n api.Node) bool { return n.Router == id })
		switch {
		case at < 0 && next(40) == 0, at >= 0 && next(thin) == 0 && next(2) == 0:
			d.Adverts = append(d.Adverts, rumour(next, id, max(1, seq())))
		case at >= 0 && next(thin) == 0:
			a := ownBy(f.Links, f.Nodes[at])
			if a.Seq == 0 || next(3) == 0 {
				a.Seq = max(1, seq())
			}
			d.Adverts = append(d.Adverts, a)
		}
	}
	return twinDatabase(d)
}

// bare returns a flood of n nodes with random links and claims, without databases and messages.
func bare(next func(int) int, n int, seq func() int) api.Flood {
	ids := chosen(next, n)
	f := api.Flood{Links: wires(next, ids, 1+next(6))}
	for _, id := range ids {
		f.Nodes = append(f.Nodes, api.Node{Router: id, Seq: seq(), Capable: next(3) != 0, Claims: claims(next)})
	}
	return f
}

// heard returns a flood with random databases, and with random messages, some of them between nodes that are not linked.
func heard(next func(int) int, f api.Flood, messages int, seq func() int) api.Flood {
	for i := range f.Nodes {
		f.Nodes[i].Database = hearsay(next, f, seq)
	}
	for range messages {
		if len(f.Nodes) < 2 {
			break
		}
		i := next(len(f.Nodes))
		j := (i + 1 + next(len(f.Nodes)-1)) % len(f.Nodes)
		from, to := f.Nodes[i].Router, f.Nodes[j].Router
		if len(f.Links) > 0 && next(5) != 0 {
			l := f.Links[next(len(f.Links))]
			from, to = l.A, l.B
			if next(2) == 0 {
				from, to = to, from
			}
		}
		f.Messages = append(f.Messages, api.Message{From: from, To: to, Database: hearsay(next, f, seq)})
	}
	return f
}

// wild returns any valid flood of n nodes.
func wild(next func(int) int, n, messages int) api.Flood {
	seq := seqs(next, 0, 1000000)
	return heard(next, bare(next, n, seq), messages, seq)
}

// tame returns a flood of n nodes from which P9.7 says that it becomes settled.
func tame(next func(int) int, n, messages int) api.Flood {
	seq := seqs(next, 1, 500000)
	f := heard(next, bare(next, n, seq), messages, seq)
	for i, n := range f.Nodes {
		own := ownBy(f.Links, n)
		l := slices.DeleteFunc(n.Database.Adverts, func(a api.Advert) bool { return a.Router == n.Router })
		l = append(l, copiedAdvert(own))
		slices.SortFunc(l, func(a, b api.Advert) int { return cmp.Compare(a.Router, b.Router) })
		f.Nodes[i].Database.Adverts = l
	}
	return f
}

// pair returns two linked nodes with the Seq 0 and no databases.
func pair() api.Flood {
	return api.Flood{
		Links: []api.Link{{A: 1, B: 2, CostA: 3, CostB: 4, Capacity: 5}},
		Nodes: []api.Node{{Router: 1, Capable: true}, {Router: 2}},
	}
}

// chain returns n nodes from 1 on, each linked with the next one, that have originated.
func chain(n int) api.Flood {
	var f api.Flood
	for id := 1; id <= n; id++ {
		f.Nodes = append(f.Nodes, api.Node{Router: id, Seq: 1, Capable: true})
		if id > 1 {
			f.Links = append(f.Links, api.Link{A: id - 1, B: id, CostA: 1, CostB: 1})
		}
	}
	for i, n := range f.Nodes {
		f.Nodes[i].Database.Adverts = []api.Advert{ownBy(f.Links, n)}
	}
	return f
}

// crowd returns nodes that are all linked with each other, whose databases are empty, with n messages of which each has one advert.
func crowd(nodes, n int) api.Flood {
	var f api.Flood
	for id := 1; id <= nodes; id++ {
		f.Nodes = append(f.Nodes, api.Node{Router: id, Seq: 1})
		for a := 1; a < id; a++ {
			f.Links = append(f.Links, api.Link{A: a, B: id, CostA: 1, CostB: 1})
		}
	}
	slices.SortFunc(f.Links, func(l, m api.Link) int { return cmp.Or(cmp.Compare(l.A, m.A), cmp.Compare(l.B, m.B)) })
	for i := range n {
		a := api.Advert{Router: 99, Seq: 1 + i}
		f.Messages = append(f.Messages, api.Message{From: 1 + i%nodes, To: 1 + (i+1)%nodes, Database: api.Database{Adverts: []api.Advert{a}}})
	}
	return f
}

// valids returns valid floods of all sizes.
func valids() []api.Flood {
	next := random(1)
	l := []api.Flood{{}, {Nodes: []api.Node{}, Links: []api.Link{}, Messages: []api.Message{}}, pair(), chain(1), chain(2), chain(24), crowd(2, 400), crowd(11, 399)}
	for n := 1; n <= 24; n++ {
		for i := range 4 {
			l = append(l, wild(next, n, []int{0, 2, 5, 17}[i]), tame(next, n, i))
		}
	}
	return append(l, wild(next, 24, 100))
}

// spoiled is a flood that is not valid.
type spoiled struct {
	name  string
	flood api.Flood
}

// full returns a valid flood with something of each kind.
func full() api.Flood {
	f := chain(3)
	f.Nodes[1].Claims = []api.Claim{{Subdomain: 1, ID: 2, Length: 8}, {Subdomain: 2, ID: 2, Length: 64}}
	f.Messages = []api.Message{
		{From: 1, To: 2, Database: twinDatabase(f.Nodes[0].Database)},
		{From: 3, To: 1, Database: twinDatabase(f.Nodes[2].Database)},
	}
	return f
}

// wrongDatabases returns databases that are not valid.
func wrongDatabases() []api.Database {
	a, b := api.Advert{Router: 1, Seq: 1}, api.Advert{Router: 2, Seq: 1}
	var many api.Database
	for id := 1; id <= 100; id++ {
		many.Adverts = append(many.Adverts, api.Advert{Router: id, Seq: 1})
	}
	return []api.Database{{Adverts: []api.Advert{{}}}, {Adverts: []api.Advert{b, a}}, {Adverts: []api.Advert{a, a}}, {Adverts: []api.Advert{a, {Router: 2}}}, many}
}

// wrongClaims returns claims that no valid advert has.
func wrongClaims() [][]api.Claim {
	var many []api.Claim
	for s := range 9 {
		many = append(many, api.Claim{Subdomain: s, ID: 1, Length: 8})
	}
	c := api.Claim{Subdomain: 3, ID: 1, Length: 8}
	return [][]api.Claim{
		many, {c, c}, {c, {Subdomain: 2, ID: 1, Length: 8}}, {{Subdomain: -1, ID: 1, Length: 8}}, {{Subdomain: 8, ID: 1, Length: 8}},
		{{ID: 0, Length: 8}}, {{ID: 257, Length: 8}}, {{ID: 1, Length: 7}}, {{ID: 1}}, {c, {Subdomain: 4}},
	}
}

// invalids returns floods that are not valid, for all reasons.
func invalids() []spoiled {
	var l []spoiled
	add := func(name string, change func(f *api.Flood)) {
		f := full()
		change(&f)
		l = append(l, spoiled{name, f})
	}
	add("a router 0", func(f *api.Flood) { f.Nodes = append([]api.Node{{}}, f.Nodes...) })
	add("a router 100", func(f *api.Flood) { f.Nodes = append(f.Nodes, api.Node{Router: 100}) })
	add("a node twice", func(f *api.Flood) { f.Nodes = append(f.Nodes, f.Nodes[2]) })
	add("nodes in the wrong order", func(f *api.Flood) { f.Nodes[0], f.Nodes[1] = f.Nodes[1], f.Nodes[0] })
	add("too many nodes", func(f *api.Flood) { f.Nodes = chain(25).Nodes })
	add("too many links", func(f *api.Flood) { *f = crowd(12, 0) })
	add("no nodes for its links", func(f *api.Flood) { f.Nodes, f.Messages = nil, nil })
	add("a link to nobody", func(f *api.Flood) { f.Links[1].B = 4 })
	add("a link twice", func(f *api.Flood) { f.Links[1] = f.Links[0] })
	add("links in the wrong order", func(f *api.Flood) { slices.Reverse(f.Links) })
	add("a link to itself", func(f *api.Flood) { f.Links[1].A = 3 })
	add("a link that begins at the greater router", func(f *api.Flood) { f.Links[1].A, f.Links[1].B = 3, 2 })
	add("a cost of 0", func(f *api.Flood) { f.Links[0].CostA = 0 })
	add("a cost of 1001", func(f *api.Flood) { f.Links[1].CostB = 1001 })
	add("a capacity of -1", func(f *api.Flood) { f.Links[1].Capacity = -1 })
	for i := range 3 {
		for _, seq := range []int{-1, 1000001, math.MinInt, math.MaxInt} {
			add("a Seq out of range", func(f *api.Flood) { f.Nodes[i].Seq = seq })
		}
		for _, c := range wrongClaims() {
			add("wrong claims", func(f *api.Flood) { f.Nodes[i].Claims = c })
		}
		for _, d := range wrongDatabases() {
			add("a wrong database of a node", func(f *api.Flood) { f.Nodes[i].Database = d })
		}
	}
	for i := range 2 {
		for _, n := range append([]int{0, 4}, far...) {
			add("a message from nobody", func(f *api.Flood) { f.Messages[i].From = n })
			add("a message to nobody", func(f *api.Flood) { f.Messages[i].To = n })
			add("a message from nobody to nobody", func(f *api.Flood) { f.Messages[i].From, f.Messages[i].To = n, n })
		}
		add("a message to its sender", func(f *api.Flood) { f.Messages[i].To = f.Messages[i].From })
		for _, d := range wrongDatabases() {
			add("a wrong database of a message", func(f *api.Flood) { f.Messages[i].Database = d })
		}
	}
	add("too many messages", func(f *api.Flood) { *f = crowd(3, 401) })
	add("very many messages", func(f *api.Flood) { *f = crowd(3, 100000) })
	add("very many nodes", func(f *api.Flood) { f.Nodes = make([]api.Node, 100000) })
	return l
}

// copiedAdvert returns an equal advert in memory of its own.
func copiedAdvert(a api.Advert) api.Advert {
	a.Links = slices.Clone(a.Links)
	a.Claims = slices.Clone(a.Claims)
	return a
}

// twinDatabase returns an equal database in memory of its own.
func twinDatabase(d api.Database) api.Database {
	d.Adverts = slices.Clone(d.Adverts)
	for i, a := range d.Adverts {
		d.Adverts[i] = copiedAdvert(a)
	}
	return d
}

// twin returns an equal flood in memory of its own.
func twin(f api.Flood) api.Flood {
	f.Links, f.Nodes, f.Messages = slices.Clone(f.Links), slices.Clone(f.Nodes), slices.Clone(f.Messages)
	for i, n := range f.Nodes {
		f.Nodes[i].Claims = slices.Clone(n.Claims)
		f.Nodes[i].Database = twinDatabase(n.Database)
	}
	for i, m := range f.Messages {
		f.Messages[i].Database = twinDatabase(m.Database)
	}
	return f
}

// alike reports whether two adverts have the same fields.
func alike(a, b api.Advert) bool {
	return a.Router == b.Router && a.Seq == b.Seq && a.Capable == b.Capable && slices.Equal(a.Links, b.Links) && slices.Equal(a.Claims, b.Claims)
}

// equalDatabase reports whether two databases have the same fields.
func equalDatabase(a, b api.Database) bool { return slices.EqualFunc(a.Adverts, b.Adverts, alike) }

// equal reports whether two floods have the same fields.
func equal(f, g api.Flood) bool {
	nodes := slices.EqualFunc(f.Nodes, g.Nodes, func(n, m api.Node) bool {
		return n.Router == m.Router && n.Seq == m.Seq && n.Capable == m.Capable && slices.Equal(n.Claims, m.Claims) && equalDatabase(n.Database, m.Database)
	})
	messages := slices.EqualFunc(f.Messages, g.Messages, func(m, n api.Message) bool {
		return m.From == n.From && m.To == n.To && equalDatabase(m.Database, n.Database)
	})
	return nodes && messages && slices.Equal(f.Links, g.Links)
}

// indexOf returns the index of a node, or -1.
func indexOf(f api.Flood, router int) int {
	return slices.IndexFunc(f.Nodes, func(n api.Node) bool { return n.Router == router })
}

// result is what a function returns that returns a flood.
type result struct {
	flood api.Flood
	e     api.Errno
}

// got keeps what a function returns.
func got(f api.Flood, e api.Errno) result { return result{f, e} }

// fails returns the result with an error.
func fails(e api.Errno) result { return result{e: e} }

// expect compares a result with the one that the definition gives, and asks that it is valid.
func expect(t *testing.T, name string, from api.Flood, have, want result) {
	t.Helper()
	if have.e != want.e || !equal(have.flood, want.flood) {
		t.Errorf("%s of %v is %v, %d; it should be %v, %d", name, from, have.flood, have.e, want.flood, want.e)
	}
	if flooding.Check(have.flood) != api.OK {
		t.Errorf("%s of %v is %v, which is not valid", name, from, have.flood)
	}
}

// issued puts the own advert of a node into its database.
func issued(f api.Flood, at int) {
	n := &f.Nodes[at]
	n.Database, _ = database.Put(n.Database, ownBy(f.Links, *n))
}

// originated is Originate of a valid flood, by the definition.
func originated(f api.Flood, router int) result {
	at := indexOf(f, router)
	if at < 0 {
		return fails(api.ErrUnknown)
	}
	if f.Nodes[at].Seq == 1000000 {
		return fails(api.ErrState)
	}
	f = twin(f)
	f.Nodes[at].Seq++
	issued(f, at)
	return got(f, api.OK)
}

// restarted is Restart of a valid flood, by the definition.
func restarted(f api.Flood, router int) result {
	at := indexOf(f, router)
	if at < 0 {
		return fails(api.ErrUnknown)
	}
	f = twin(f)
	f.Nodes[at].Seq, f.Nodes[at].Database = 0, api.Database{}
	return originated(f, router)
}

// leave adds the messages of a node to a valid flood.
func leave(f *api.Flood, n api.Node) {
	for to := 1; to <= 99; to++ {
		if joined(f.Links, n.Router, to) {
			f.Messages = append(f.Messages, api.Message{From: n.Router, To: to, Database: n.Database})
		}
	}
}

// sent is Send of a valid flood, by the definition.
func sent(f api.Flood, router int) result {
	at := indexOf(f, router)
	if at < 0 {
		return fails(api.ErrUnknown)
	}
	f = twin(f)
	leave(&f, f.Nodes[at])
	if len(f.Messages) > 400 {
		return fails(api.ErrLimit)
	}
	return got(f, api.OK)
}

// lost is Lose of a valid flood, by the definition.
func lost(f api.Flood, k int) result {
	if k < 0 || k >= len(f.Messages) {
		return fails(api.ErrUnknown)
	}
	f.Messages = slices.Concat(f.Messages[:k], f.Messages[k+1:])
	return got(f, api.OK)
}

// doubled is Double of a valid flood, by the definition.
func doubled(f api.Flood, k int) result {
	switch {
	case k < 0 || k >= len(f.Messages):
		return fails(api.ErrUnknown)
	case len(f.Messages) == 400:
		return fails(api.ErrLimit)
	}
	f.Messages = slices.Concat(f.Messages, f.Messages[k:k+1])
	return got(f, api.OK)
}

// arrives takes the message with the index k out of a valid flood and delivers it, by the definition.
func arrives(f *api.Flood, k int) {
	m := f.Messages[k]
	f.Messages = slices.Delete(f.Messages, k, k+1)
	if !joined(f.Links, m.From, m.To) {
		return
	}
	at := indexOf(*f, m.To)
	n := &f.Nodes[at]
	n.Database, _ = database.Merge(n.Database, m.Database)
	for _, a := range n.Database.Adverts {
		if a.Router == n.Router && (n.Seq == 0 || !alike(a, ownBy(f.Links, *n))) && a.Seq+1 <= 1000000 {
			n.Seq = a.Seq + 1
			issued(*f, at)
			break
		}
	}
}

// delivered is Deliver of a valid flood, by the definition.
func delivered(f api.Flood, k int) result {
	if k < 0 || k >= len(f.Messages) {
		return fails(api.ErrUnknown)
	}
	f = twin(f)
	arrives(&f, k)
	return got(f, api.OK)
}

// changed is Change of a valid flood, by the definition.
func changed(f api.Flood, links []api.Link) result {
	old := f.Links
	f = twin(f)
	f.Links = links
	if topology.Check(flooding.Topology(f)) != api.OK {
		return fails(api.ErrInvalid)
	}
	f.Messages = slices.DeleteFunc(f.Messages, func(m api.Message) bool { return !joined(links, m.From, m.To) })
	for i, n := range f.Nodes {
		if n.Seq > 0 && n.Seq < 1000000 && !alike(ownBy(old, n), ownBy(links, n)) {
			f.Nodes[i].Seq++
			issued(f, i)
		}
	}
	return got(f, api.OK)
}

// rounded is Round of a valid flood, by the definition.
func rounded(f api.Flood) result {
	f = twin(f)
	all := func() {
		for len(f.Messages) > 0 {
			arrives(&f, 0)
		}
	}
	all()
	for _, n := range f.Nodes {
		leave(&f, n)
	}
	all()
	return got(f, api.OK)
}

// settled is Settled of a valid flood, by the definition.
func settled(f api.Flood) bool {
	t := flooding.Topology(f)
	for i, n := range f.Nodes {
		own := ownBy(f.Links, n)
		known := slices.ContainsFunc(n.Database.Adverts, func(a api.Advert) bool { return alike(a, own) })
		if n.Seq == 0 || !known {
			return false
		}
		for _, m := range f.Nodes[:i] {
			if topology.Connected(t, n.Router, m.Router) && !equalDatabase(n.Database, m.Database) {
				return false
			}
		}
	}
	return len(f.Messages) == 0
}

// routers returns the routers of a flood, and numbers that are none.
func routers(f api.Flood) []int {
	l := append([]int{0, 1, 2, 50, 99}, far...)
	for _, n := range f.Nodes {
		l = append(l, n.Router)
	}
	return l
}

// indices returns the indices of some messages of a flood, and numbers that are none.
func indices(f api.Flood) []int {
	n := len(f.Messages)
	return append([]int{0, 1, n / 2, n - 2, n - 1, n, n + 1}, far...)
}

// P9.1: Check of valid floods, and of those that are not valid for one reason.
func TestCheck(t *testing.T) {
	for _, f := range append(valids(), full()) {
		if e := flooding.Check(f); e != api.OK {
			t.Errorf("Check of %v is %d", f, e)
		}
	}
	for _, c := range invalids() {
		if e := flooding.Check(c.flood); e != api.ErrInvalid {
			t.Errorf("Check of a flood with %s is %d", c.name, e)
		}
	}
}

// P9.1: what is at a limit is valid: each Seq and number of messages, all claims, databases of all routers.
func TestCheckLimits(t *testing.T) {
	f := full()
	for seq := -2; seq <= 1000002; seq++ {
		// Between the ends all are alike, and some are enough.
		if seq == 3 {
			seq = 999998
		}
		f.Nodes[2].Seq = seq
		if e := flooding.Check(f); (e == api.OK) != (seq >= 0 && seq <= 1000000) {
			t.Errorf("Check with a Seq %d is %d", seq, e)
		}
	}
	for n := 390; n <= 410; n++ {
		if e := flooding.Check(crowd(4, n)); (e == api.OK) != (n <= 400) {
			t.Errorf("Check with %d messages is %d", n, e)
		}
	}
	f = full()
	for s := range 8 {
		f.Nodes[0].Claims = append(f.Nodes[0].Claims, api.Claim{Subdomain: s, ID: 256 - 36*s, Length: 8 << (s % 4)})
	}
	for id := 1; id <= 99; id++ {
		f.Nodes[2].Database.Adverts = append(f.Nodes[2].Database.Adverts[:id-1:id-1], api.Advert{Router: id, Seq: 1})
	}
	f.Messages[1].Database = f.Nodes[2].Database
	if e := flooding.Check(f); e != api.OK {
		t.Errorf("Check of a flood with much of everything is %d", e)
	}
	star := chain(24)
	star.Links = nil
	for id := 2; id <= 24; id++ {
		star.Links = append(star.Links, api.Link{A: 1, B: id, CostA: 1000, CostB: 1000, Capacity: 1000})
	}
	if e := flooding.Check(star); e != api.OK {
		t.Errorf("Check of a star is %d", e)
	}
}

// P9.1: Topology, also of floods that are not valid.
func TestTopology(t *testing.T) {
	l := valids()
	for _, c := range invalids() {
		l = append(l, c.flood)
	}
	for _, f := range l {
		top := flooding.Topology(f)
		same := slices.EqualFunc(top.Routers, f.Nodes, func(r api.Router, n api.Node) bool { return r.ID == n.Router && r.Capable == n.Capable })
		if !same || !slices.Equal(top.Links, f.Links) {
			t.Errorf("Topology of %v is %v", f, top)
		}
	}
}

// P9.1: Own of each node and of nobody.
func TestOwn(t *testing.T) {
	none := 0
	for _, f := range append(valids(), full()) {
		for _, router := range routers(f) {
			var want api.Advert
			at := indexOf(f, router)
			there := at >= 0 && f.Nodes[at].Seq > 0
			if there {
				want = ownBy(f.Links, f.Nodes[at])
			} else if at >= 0 {
				none++
			}
			if a, ok := flooding.Own(f, router); ok != there || !alike(a, want) {
				t.Errorf("Own of %v at %d is %v, %v; it should be %v, %v", f, router, a, ok, want, there)
			}
		}
	}
	if none < 100 {
		t.Errorf("the tests have %d nodes with the Seq 0", none)
	}
}

// P9.1: nobody in a flood that is not valid has an own advert.
func TestOwnInvalid(t *testing.T) {
	for _, c := range invalids() {
		for _, router := range []int{0, 1, 2, 3, 4, 100} {
			if a, ok := flooding.Own(c.flood, router); ok || !alike(a, api.Advert{}) {
				t.Errorf("Own in a flood with %s is %v, %v", c.name, a, ok)
			}
		}
	}
}

// P9.1: an own advert written by hand.
func TestOwnKnown(t *testing.T) {
	f := api.Flood{
		Links: []api.Link{{A: 1, B: 5, CostA: 10, CostB: 20, Capacity: 30}, {A: 5, B: 9, CostA: 40, CostB: 50}},
		Nodes: []api.Node{{Router: 1}, {Router: 5, Seq: 7, Capable: true, Claims: []api.Claim{{Subdomain: 2, ID: 3, Length: 16}}}, {Router: 9, Seq: 1000000}},
	}
	five := api.Advert{Router: 5, Seq: 7, Capable: true, Links: []api.Reach{{Neighbour: 1, Cost: 20, Capacity: 30}, {Neighbour: 9, Cost: 40}}, Claims: []api.Claim{{Subdomain: 2, ID: 3, Length: 16}}}
	if a, ok := flooding.Own(f, 5); !ok || !alike(a, five) {
		t.Errorf("Own is %v, %v", a, ok)
	}
	if a, ok := flooding.Own(f, 9); !ok || !alike(a, api.Advert{Router: 9, Seq: 1000000, Links: []api.Reach{{Neighbour: 5, Cost: 50}}}) {
		t.Errorf("Own is %v, %v", a, ok)
	}
	if a, ok := flooding.Own(f, 1); ok || !alike(a, api.Advert{}) {
		t.Errorf("Own with the Seq 0 is %v, %v", a, ok)
	}
}

// owned returns the claims of all nodes.
func owned(f api.Flood) []api.Owned {
	var l []api.Owned
	for _, n := range f.Nodes {
		for _, c := range n.Claims {
			l = append(l, api.Owned{Router: n.Router, Claim: c})
		}
	}
	return l
}

// P9.2: Start of random topologies and claims.
func TestStart(t *testing.T) {
	claimed := 0
	for _, f := range append(valids(), full()) {
		want := twin(f)
		want.Messages = nil
		for i := range want.Nodes {
			want.Nodes[i].Seq, want.Nodes[i].Database = 0, api.Database{}
		}
		all := owned(f)
		claimed += len(all)
		expect(t, "Start", f, got(flooding.Start(flooding.Topology(f), all)), got(want, api.OK))
	}
	if claimed < 1000 {
		t.Errorf("the tests have %d claims", claimed)
	}
}

// P9.2: each error of Start, in its order.
func TestStartErrors(t *testing.T) {
	of := func(router, subdomain int) api.Owned {
		return api.Owned{Router: router, Claim: api.Claim{Subdomain: subdomain, ID: 1, Length: 8}}
	}
	wrong := func(router, subdomain int) api.Owned {
		return api.Owned{Router: router, Claim: api.Claim{Subdomain: subdomain, ID: 1, Length: 9}}
	}
	top := flooding.Topology(chain(3))
	for i, c := range []struct {
		claims []api.Owned
		want   api.Errno
	}{
		{nil, api.OK},
		{[]api.Owned{of(1, 0), of(1, 7), of(3, 0)}, api.OK},
		{[]api.Owned{of(2, 7), of(3, 0)}, api.OK},
		{[]api.Owned{of(4, 0)}, api.ErrUnknown},
		{[]api.Owned{of(0, 0)}, api.ErrUnknown},
		{[]api.Owned{of(1, 0), of(1<<32+2, 0)}, api.ErrUnknown},
		{[]api.Owned{of(2, 0), of(1, 0), of(4, 0)}, api.ErrUnknown},
		{[]api.Owned{wrong(2, -1), wrong(1, 0), of(-1, 0)}, api.ErrUnknown},
		{[]api.Owned{of(2, 0), of(1, 0)}, api.ErrOrder},
		{[]api.Owned{of(1, 0), of(3, 1), of(2, 2)}, api.ErrOrder},
		{[]api.Owned{of(1, 1), of(1, 0)}, api.ErrOrder},
		{[]api.Owned{of(1, 1), of(1, 1)}, api.ErrOrder},
		{[]api.Owned{of(1, 1), of(2, 1), of(2, 1)}, api.ErrOrder},
		{[]api.Owned{wrong(1, 8), wrong(1, -8)}, api.ErrOrder},
		{[]api.Owned{of(1, math.MaxInt), of(1, math.MinInt)}, api.ErrOrder},
		{[]api.Owned{of(1, math.MinInt), of(1, math.MaxInt)}, api.ErrInvalid},
		{[]api.Owned{of(1, 1), wrong(3, 1)}, api.ErrInvalid},
		{[]api.Owned{of(1, -1)}, api.ErrInvalid},
		{[]api.Owned{of(3, 8)}, api.ErrInvalid},
		{[]api.Owned{{Router: 2}}, api.ErrInvalid},
	} {
		f, e := flooding.Start(top, c.claims)
		if e != c.want || e != api.OK && !equal(f, api.Flood{}) || e == api.OK && !slices.Equal(owned(f), c.claims) {
			t.Errorf("%d: Start is %v, %d; it should be %d", i, f, e, c.want)
		}
		for _, s := range invalids() {
			bad := flooding.Topology(s.flood)
			if f, e := flooding.Start(bad, c.claims); topology.Check(bad) != api.OK && (e != api.ErrInvalid || !equal(f, api.Flood{})) {
				t.Errorf("%d: Start with %s is %v, %d", i, s.name, f, e)
			}
		}
	}
}

// P9.2: whatever claims a valid advert does not have, Start does not take.
func TestStartClaims(t *testing.T) {
	for _, l := range wrongClaims() {
		var all []api.Owned
		for _, c := range l {
			all = append(all, api.Owned{Router: 2, Claim: c})
		}
		want := api.ErrInvalid
		if !slices.IsSortedFunc(l, func(a, b api.Claim) int { return cmp.Compare(a.Subdomain, b.Subdomain) }) || len(l) == 2 && l[0] == l[1] {
			want = api.ErrOrder
		}
		expect(t, "Start", api.Flood{}, got(flooding.Start(flooding.Topology(chain(3)), all)), fails(want))
	}
}

// P9.3: Originate and Restart of each node, and of nobody.
func TestOriginate(t *testing.T) {
	last, stays := 0, 0
	for _, f := range append(valids(), full()) {
		for _, router := range routers(f) {
			have := got(flooding.Originate(f, router))
			expect(t, "Originate", f, have, originated(f, router))
			expect(t, "Restart", f, got(flooding.Restart(f, router)), restarted(f, router))
			at := indexOf(f, router)
			switch {
			case at >= 0 && have.e == api.ErrState:
				last++
			case at >= 0 && equalDatabase(f.Nodes[at].Database, have.flood.Nodes[at].Database):
				stays++
			}
		}
	}
	if last < 50 || stays < 50 {
		t.Errorf("the tests have %d nodes with the greatest Seq, and %d that know a newer advert of themselves", last, stays)
	}
}

// P9.3: Originate and Restart written by hand.
func TestOriginateKnown(t *testing.T) {
	f := pair()
	f.Nodes[0].Seq = 4
	f.Nodes[0].Database.Adverts = []api.Advert{{Router: 1, Seq: 2}, {Router: 9, Seq: 1}}
	own := func(seq int) api.Advert {
		return api.Advert{Router: 1, Seq: seq, Capable: true, Links: []api.Reach{{Neighbour: 2, Cost: 3, Capacity: 5}}}
	}
	want := twin(f)
	want.Nodes[0].Seq, want.Nodes[0].Database.Adverts[0] = 5, own(5)
	expect(t, "Originate", f, got(flooding.Originate(f, 1)), got(want, api.OK))
	want.Nodes[0].Seq, want.Nodes[0].Database.Adverts = 1, []api.Advert{own(1)}
	expect(t, "Restart", f, got(flooding.Restart(f, 1)), got(want, api.OK))

	// A node with the greatest Seq can only restart; one with the Seq before it can still originate.
	f.Nodes[0].Seq = 1000000
	expect(t, "Originate", f, got(flooding.Originate(f, 1)), fails(api.ErrState))
	expect(t, "Restart", f, got(flooding.Restart(f, 1)), got(want, api.OK))
	f.Nodes[0].Seq = 999999
	want.Nodes[0].Seq, want.Nodes[0].Database.Adverts = 1000000, []api.Advert{own(1000000), {Router: 9, Seq: 1}}
	expect(t, "Originate", f, got(flooding.Originate(f, 1)), got(want, api.OK))
}

// P9.4: Send of each node, and of nobody.
func TestSend(t *testing.T) {
	for _, f := range append(valids(), full()) {
		for _, router := range routers(f) {
			expect(t, "Send", f, got(flooding.Send(f, router)), sent(f, router))
		}
	}
}

// P9.4: up to 400 messages are sent; a node without neighbours sends none, and never too many.
func TestSendLimit(t *testing.T) {
	for n := 385; n <= 400; n++ {
		f := crowd(11, n)
		f.Nodes = append(f.Nodes, api.Node{Router: 50})
		f.Messages[n-1].To = 50
		want := api.OK
		if n > 390 {
			want = api.ErrLimit
		}
		if g, e := flooding.Send(f, 5); e != want || e == api.OK && len(g.Messages) != n+10 || e != api.OK && !equal(g, api.Flood{}) {
			t.Errorf("Send with %d messages has %d, %d", n, len(g.Messages), e)
		}
		expect(t, "Send", f, got(flooding.Send(f, 50)), got(f, api.OK))
		expect(t, "Send", f, got(flooding.Send(f, 49)), fails(api.ErrUnknown))
	}
}

// P9.4: Lose, Double and Deliver of messages, and of none.
func TestMessages(t *testing.T) {
	for _, f := range append(valids(), full()) {
		for _, k := range indices(f) {
			expect(t, "Lose", f, got(flooding.Lose(f, k)), lost(f, k))
			expect(t, "Double", f, got(flooding.Double(f, k)), doubled(f, k))
			expect(t, "Deliver", f, got(flooding.Deliver(f, k)), delivered(f, k))
		}
	}
}

// P9.4: messages written by hand: a copy comes behind all, and what is lost is gone.
func TestMessagesKnown(t *testing.T) {
	f := crowd(3, 3)
	a, b, c := f.Messages[0], f.Messages[1], f.Messages[2]
	with := func(l ...api.Message) api.Flood {
		g := f
		g.Messages = l
		return g
	}
	expect(t, "Lose", f, got(flooding.Lose(f, 1)), got(with(a, c), api.OK))
	expect(t, "Double", f, got(flooding.Double(f, 0)), got(with(a, b, c, a), api.OK))
	expect(t, "Lose", f, got(flooding.Lose(with(a), 0)), got(with(), api.OK))
	expect(t, "Lose", f, got(flooding.Lose(with(), 0)), fails(api.ErrUnknown))
	expect(t, "Double", f, got(flooding.Double(with(), 0)), fails(api.ErrUnknown))
	expect(t, "Deliver", f, got(flooding.Deliver(with(), 0)), fails(api.ErrUnknown))
	many := crowd(3, 400)
	expect(t, "Double", many, got(flooding.Double(many, 400)), fails(api.ErrUnknown))
	expect(t, "Double", many, got(flooding.Double(many, 399)), fails(api.ErrLimit))
	many.Messages = many.Messages[:399]
	if g, e := flooding.Double(many, 398); e != api.OK || len(g.Messages) != 400 {
		t.Errorf("Double of the last one of 399 is %d", e)
	}
}

// told returns a pair of nodes in which 1 has this Seq and knows these adverts, with a message from 2 to 1 with one more.
func told(seq int, message api.Advert, knows ...api.Advert) api.Flood {
	f := pair()
	f.Nodes[0].Seq, f.Nodes[0].Database.Adverts = seq, knows
	f.Messages = []api.Message{{From: 2, To: 1, Database: api.Database{Adverts: []api.Advert{message}}}}
	return f
}

// P9.4: what a node makes of an advert of itself that it is told.
func TestDeliverOwn(t *testing.T) {
	own := func(seq int) api.Advert {
		return api.Advert{Router: 1, Seq: seq, Capable: true, Links: []api.Reach{{Neighbour: 2, Cost: 3, Capacity: 5}}}
	}
	other := func(seq int) api.Advert { return api.Advert{Router: 1, Seq: seq} }
	// greater is newer than the own advert with the same Seq.
	greater := func(seq int) api.Advert {
		a := own(seq)
		a.Links = append(a.Links, api.Reach{Neighbour: 3, Cost: 1})
		return a
	}
	nine := api.Advert{Router: 9, Seq: 1}
	for _, c := range []struct {
		flood api.Flood
		seq   int
		knows []api.Advert
	}{
		// Nothing is said of the node itself.
		{told(4, nine, own(4)), 4, []api.Advert{own(4), nine}},
		{told(4, nine), 4, []api.Advert{nine}},
		{told(0, nine), 0, []api.Advert{nine}},
		// What is said is older, or its own advert.
		{told(4, other(4), own(4)), 4, []api.Advert{own(4)}},
		{told(4, other(3), own(4)), 4, []api.Advert{own(4)}},
		{told(4, own(4), own(4)), 4, []api.Advert{own(4)}},
		{told(4, own(4)), 4, []api.Advert{own(4)}},
		{told(4, own(4), other(3)), 4, []api.Advert{own(4)}},
		// What is said is another advert.
		{told(4, other(5), own(4)), 6, []api.Advert{own(6)}},
		{told(4, own(5), own(4)), 6, []api.Advert{own(6)}},
		{told(4, greater(4), own(4)), 5, []api.Advert{own(5)}},
		{told(4, other(70), own(4), nine), 71, []api.Advert{own(71), nine}},
		// The node does not have its own advert in its database.
		{told(4, other(4)), 5, []api.Advert{own(5)}},
		{told(4, other(2)), 3, []api.Advert{own(3)}},
		{told(4, nine, other(6)), 7, []api.Advert{own(7), nine}},
		{told(4, nine, other(2)), 3, []api.Advert{own(3), nine}},
		// A node that has not originated yet.
		{told(0, other(1)), 2, []api.Advert{own(2)}},
		{told(0, own(1)), 2, []api.Advert{own(2)}},
		{told(0, nine, own(1)), 2, []api.Advert{own(2), nine}},
		// No Seq comes after the greatest one.
		{told(4, other(999999), own(4)), 1000000, []api.Advert{own(1000000)}},
		{told(4, other(1000000), own(4)), 4, []api.Advert{other(1000000)}},
		{told(0, other(1000000)), 0, []api.Advert{other(1000000)}},
		{told(1000000, own(1000000)), 1000000, []api.Advert{own(1000000)}},
		{told(1000000, greater(1000000), own(1000000)), 1000000, []api.Advert{greater(1000000)}},
		{told(1000000, nine, other(1000000)), 1000000, []api.Advert{other(1000000), nine}},
	} {
		want := twin(c.flood)
		want.Messages = nil
		want.Nodes[0].Seq, want.Nodes[0].Database.Adverts = c.seq, c.knows
		expect(t, "Deliver", c.flood, got(flooding.Deliver(c.flood, 0)), got(want, api.OK))

		// Where there is no link any more the message only goes.
		apart := twin(c.flood)
		apart.Links = nil
		want = twin(apart)
		want.Messages = nil
		expect(t, "Deliver", apart, got(flooding.Deliver(apart, 0)), got(want, api.OK))
	}
}

// P9.4: a link carries messages in both directions, to the one node that a message names.
func TestDeliverDirections(t *testing.T) {
	f := chain(3)
	say := func(from, to int) api.Message {
		return api.Message{From: from, To: to, Database: api.Database{Adverts: []api.Advert{{Router: 50 + to, Seq: 1}}}}
	}
	for from := 1; from <= 3; from++ {
		for to := 1; to <= 3; to++ {
			if from == to {
				continue
			}
			f.Messages = []api.Message{say(from, to)}
			want := twin(f)
			want.Messages = nil
			if from == 2 || to == 2 {
				d := &want.Nodes[to-1].Database
				d.Adverts = append(d.Adverts, api.Advert{Router: 50 + to, Seq: 1})
			}
			expect(t, "Deliver", f, got(flooding.Deliver(f, 0)), got(want, api.OK))
		}
	}
}

// altered returns links with some changes: one that is gone, one with other numbers, or one more.
func altered(next func(int) int, f api.Flood) []api.Link {
	l := slices.Clone(f.Links)
	for range next(4) {
		if len(l) == 0 {
			break
		}
		i := next(len(l))
		switch next(4) {
		case 0:
			l = slices.Delete(l, i, i+1)
		case 1:
			l[i].CostA = 1 + next(1000)
		case 2:
			l[i].CostB = 1 + next(1000)
		case 3:
			l[i].Capacity = next(1001)
		}
	}
	n := len(f.Nodes)
	if n < 2 || len(l) == 60 || next(2) == 0 {
		return l
	}
	i := next(n - 1)
	j := i + 1 + next(n-1-i)
	a, b := f.Nodes[i].Router, f.Nodes[j].Router
	if !joined(l, a, b) {
		l = append(l, api.Link{A: a, B: b, CostA: 1 + next(1000), CostB: 1 + next(1000)})
	}
	slices.SortFunc(l, func(l, m api.Link) int { return cmp.Or(cmp.Compare(l.A, m.A), cmp.Compare(l.B, m.B)) })
	return l
}

// P9.5: Change of random floods to random links, few of which are others.
func TestChange(t *testing.T) {
	next := random(2)
	for _, f := range append(valids(), full()) {
		for range 6 {
			links := altered(next, f)
			expect(t, "Change", f, got(flooding.Change(f, links)), changed(f, links))
		}
		expect(t, "Change", f, got(flooding.Change(f, f.Links)), changed(f, f.Links))
		expect(t, "Change", f, got(flooding.Change(f, nil)), changed(f, nil))
	}
}

// P9.5: a Change written by hand.
func TestChangeKnown(t *testing.T) {
	f := chain(4)
	f.Nodes[2].Seq = 0
	f.Nodes[3].Seq = 1000000
	for _, m := range [][2]int{{1, 2}, {2, 1}, {2, 3}, {3, 2}, {3, 4}, {1, 4}} {
		f.Messages = append(f.Messages, api.Message{From: m[0], To: m[1]})
	}
	want := twin(f)
	want.Links = []api.Link{{A: 1, B: 2, CostA: 1, CostB: 2}, {A: 3, B: 4, CostA: 1, CostB: 2, Capacity: 7}}
	// For 1 nothing is new: the cost from 2 to 1 is what 2 says. 3 has not originated yet, and 4 has no greater Seq.
	want.Messages = []api.Message{{From: 1, To: 2}, {From: 2, To: 1}, {From: 3, To: 4}}
	want.Nodes[1].Seq = 2
	want.Nodes[1].Database.Adverts = []api.Advert{{Router: 2, Seq: 2, Capable: true, Links: []api.Reach{{Neighbour: 1, Cost: 2}}}}
	expect(t, "Change", f, got(flooding.Change(f, want.Links)), got(want, api.OK))
}

// P9.5: only what the own advert says counts, not what the database has.
func TestChangeUnheard(t *testing.T) {
	f := pair()
	f.Nodes[0].Seq, f.Nodes[1].Seq = 5, 999999
	f.Nodes[1].Database.Adverts = []api.Advert{{Router: 2, Seq: 1000000}}
	expect(t, "Change", f, got(flooding.Change(f, f.Links)), got(f, api.OK))
	want := twin(f)
	want.Links = nil
	want.Nodes[0].Seq, want.Nodes[1].Seq = 6, 1000000
	want.Nodes[0].Database.Adverts = []api.Advert{{Router: 1, Seq: 6, Capable: true}}
	expect(t, "Change", f, got(flooding.Change(f, nil)), got(want, api.OK))
}

// P9.5: links with which the flood would not be valid.
func TestChangeInvalid(t *testing.T) {
	f := full()
	l := func(a, b int) api.Link { return api.Link{A: a, B: b, CostA: 1, CostB: 1} }
	for _, links := range [][]api.Link{
		{l(1, 4)}, {l(0, 1)}, {l(2, 1)}, {l(2, 2)}, {l(1, 2), l(1, 2)}, {l(2, 3), l(1, 2)}, {{A: 1, B: 2}}, {{A: 1, B: 2, CostA: 1001, CostB: 1}},
		{{A: 1, B: 2, CostA: 1, CostB: 1, Capacity: 1001}}, make([]api.Link, 61), crowd(12, 0).Links,
	} {
		expect(t, "Change", f, got(flooding.Change(f, links)), fails(api.ErrInvalid))
	}
	links := []api.Link{l(1, 2), l(1, 3), l(2, 3)}
	expect(t, "Change", f, got(flooding.Change(f, links)), changed(f, links))
}

// P9.6: Round of random floods.
func TestRound(t *testing.T) {
	for _, f := range append(valids(), full()) {
		expect(t, "Round", f, got(flooding.Round(f)), rounded(f))
	}
}

// P9.6: the chapter's example, and what crosses one link in each Round.
func TestRoundKnown(t *testing.T) {
	f, e := flooding.Start(flooding.Topology(pair()), nil)
	for router := 1; router <= 2 && e == api.OK; router++ {
		f, e = flooding.Originate(f, router)
	}
	f, e = flooding.Round(f)
	if e != api.OK || len(f.Nodes) != 2 || len(f.Nodes[0].Database.Adverts) != 2 || len(f.Nodes[1].Database.Adverts) != 2 || !flooding.Settled(f) {
		t.Errorf("after one Round the flood is %v, %d", f, e)
	}
	f = chain(24)
	for round := 1; round <= 23; round++ {
		f, e = flooding.Round(f)
		for i, n := range f.Nodes {
			if want := min(i, round) + 1 + min(23-i, round); len(n.Database.Adverts) != want {
				t.Errorf("after %d rounds the node %d has %d adverts instead of %d", round, n.Router, len(n.Database.Adverts), want)
			}
		}
		if e != api.OK || flooding.Settled(f) != (round == 23) {
			t.Errorf("after %d rounds Settled is %v", round, flooding.Settled(f))
		}
	}
}

// P9.6: Rounds of small, great and negative numbers.
func TestRounds(t *testing.T) {
	for n := -1000; n <= 1000; n++ {
		if r := flooding.Rounds(n); r != max(0, n+n) {
			t.Errorf("Rounds of %d is %d", n, r)
		}
	}
	for _, c := range [][2]int{
		{math.MinInt, 0}, {-1 << 62, 0}, {1 << 30, 1 << 31}, {1 << 31, 1 << 32}, {1<<40 - 1, 1<<41 - 2}, {1 << 40, 1 << 41},
		{1<<40 + 1, 1 << 41}, {1 << 41, 1 << 41}, {1 << 62, 1 << 41}, {1<<62 + 1, 1 << 41}, {1<<63 - 1, 1 << 41},
	} {
		if r := flooding.Rounds(c[0]); r != c[1] {
			t.Errorf("Rounds of %d is %d; it should be %d", c[0], r, c[1])
		}
	}
}

// rounds returns a flood after so many Rounds.
func rounds(t *testing.T, f api.Flood, n int) api.Flood {
	t.Helper()
	for range n {
		g, e := flooding.Round(f)
		if e != api.OK {
			t.Fatalf("Round of %v is %d", f, e)
		}
		f = g
	}
	return f
}

// P9.6: Settled of random floods, before and after Rounds.
func TestSettled(t *testing.T) {
	yes, no := 0, 0
	for _, f := range append(valids(), full()) {
		for range 4 {
			want := settled(f)
			if have := flooding.Settled(f); have != want {
				t.Errorf("Settled of %v is %v", f, have)
			}
			if want {
				yes++
			} else {
				no++
			}
			f = rounds(t, f, 1)
		}
	}
	if yes < 50 || no < 100 {
		t.Errorf("the tests have %d settled floods, and %d others", yes, no)
	}
}

// P9.6: what is settled is not so any more with one thing wrong.
func TestSettledWrong(t *testing.T) {
	f := rounds(t, chain(5), 4)
	f.Nodes = append(f.Nodes, api.Node{Router: 9, Seq: 1, Database: api.Database{Adverts: []api.Advert{{Router: 9, Seq: 1}}}})
	if !flooding.Settled(f) || !flooding.Settled(api.Flood{}) {
		t.Errorf("Settled of %v is false", f)
	}
	for _, m := range [][2]int{{1, 2}, {5, 4}, {1, 9}, {9, 5}} {
		g := twin(f)
		g.Messages = []api.Message{{From: m[0], To: m[1]}}
		if flooding.Settled(g) {
			t.Errorf("Settled is true with a message from %d to %d", m[0], m[1])
		}
	}
	for i := range f.Nodes {
		own := min(i, len(f.Nodes[i].Database.Adverts)-1)
		for _, c := range []struct {
			name   string
			change func(n *api.Node)
		}{
			{"a Seq 0", func(n *api.Node) { n.Seq = 0 }},
			{"another Seq", func(n *api.Node) { n.Seq = 2 }},
			{"a Seq that is not valid", func(n *api.Node) { n.Seq = -1 }},
			{"another router", func(n *api.Node) { n.Router = 0 }},
			{"other claims", func(n *api.Node) { n.Claims = []api.Claim{{ID: 1, Length: 8}} }},
			{"no database", func(n *api.Node) { n.Database = api.Database{} }},
			{"no advert of itself", func(n *api.Node) { n.Database.Adverts = slices.Delete(n.Database.Adverts, own, own+1) }},
			{"another advert of itself", func(n *api.Node) { n.Database.Adverts[own].Capable = !n.Capable }},
			{"an advert that is not valid", func(n *api.Node) { n.Database.Adverts[0].Router = 0 }},
		} {
			g := twin(f)
			c.change(&g.Nodes[i])
			if flooding.Settled(g) {
				t.Errorf("Settled is true with %s of the node %d", c.name, f.Nodes[i].Router)
			}
		}
		// One more advert is a difference only where there is another node in the component.
		g := twin(f)
		g.Nodes[i].Database.Adverts = append(g.Nodes[i].Database.Adverts, api.Advert{Router: 50, Seq: 1})
		if flooding.Settled(g) != (i == 5) {
			t.Errorf("Settled is %v with one more advert at the node %d", i != 5, f.Nodes[i].Router)
		}
	}
}

// P9.6: nothing that is not valid is settled.
func TestSettledInvalid(t *testing.T) {
	for _, c := range invalids() {
		if flooding.Settled(c.flood) {
			t.Errorf("Settled of a flood with %s is true", c.name)
		}
	}
}

// P9.1 to P9.6: a flood that is not valid comes before all other errors.
func TestInvalid(t *testing.T) {
	for _, c := range invalids() {
		for _, n := range []int{-1, 0, 1, 2, 3, 4, 400, 1000} {
			expect(t, "Originate", api.Flood{}, got(flooding.Originate(c.flood, n)), fails(api.ErrInvalid))
			expect(t, "Restart", api.Flood{}, got(flooding.Restart(c.flood, n)), fails(api.ErrInvalid))
			expect(t, "Send", api.Flood{}, got(flooding.Send(c.flood, n)), fails(api.ErrInvalid))
			expect(t, "Deliver", api.Flood{}, got(flooding.Deliver(c.flood, n)), fails(api.ErrInvalid))
			expect(t, "Lose", api.Flood{}, got(flooding.Lose(c.flood, n)), fails(api.ErrInvalid))
			expect(t, "Double", api.Flood{}, got(flooding.Double(c.flood, n)), fails(api.ErrInvalid))
		}
		expect(t, "Round", api.Flood{}, got(flooding.Round(c.flood)), fails(api.ErrInvalid))
		for _, links := range [][]api.Link{nil, full().Links, c.flood.Links} {
			expect(t, "Change", api.Flood{}, got(flooding.Change(c.flood, links)), fails(api.ErrInvalid))
		}
	}
}

// check asks what P9.7 says of a flood after enough Rounds.
func check(t *testing.T, from, f api.Flood) {
	t.Helper()
	if !flooding.Settled(f) {
		t.Errorf("after enough rounds from %v the flood is not settled: %v", from, f)
	}
	top := flooding.Topology(f)
	for _, n := range f.Nodes {
		var want api.Topology
		for _, r := range top.Routers {
			if topology.Connected(top, n.Router, r.ID) {
				want.Routers = append(want.Routers, r)
			}
		}
		for _, l := range top.Links {
			if topology.Connected(top, n.Router, l.A) {
				want.Links = append(want.Links, l)
			}
		}
		view := database.View(n.Database, n.Router)
		if !slices.Equal(view.Routers, want.Routers) || !slices.Equal(view.Links, want.Links) {
			t.Errorf("the View at %d is %v; it should be %v", n.Router, view, want)
		}
	}
}

// P9.7: as many Rounds as Rounds says make any flood settled, in which each node has its own advert, and it stays so.
func TestBecomesSettled(t *testing.T) {
	next := random(3)
	for _, n := range []int{0, 1, 2, 3, 4, 5, 6, 7, 8, 9, 10, 11, 12, 18, 24} {
		for i := range 3 {
			from := tame(next, n, 7*i)
			f := rounds(t, from, flooding.Rounds(len(from.Nodes)))
			check(t, from, f)
			again := rounds(t, f, 1)
			check(t, from, again)
			if !equal(f, again) {
				t.Errorf("a settled flood has become another one: %v", again)
			}
		}
	}
}

// P9.7: adverts of a node from an earlier life, at the other end of a chain, come back to it and are answered.
func TestBecomesSettledAfterRestart(t *testing.T) {
	for n := 1; n <= 24; n++ {
		f := chain(n)
		last := &f.Nodes[n-1].Database
		if n > 1 {
			last.Adverts = append([]api.Advert{{Router: 1, Seq: 500000, Links: []api.Reach{{Neighbour: n, Cost: 9}}}}, last.Adverts...)
		}
		after := rounds(t, f, flooding.Rounds(n))
		check(t, f, after)
		if want := 500001; n > 1 && after.Nodes[0].Seq != want {
			t.Errorf("in a chain of %d the Seq of the node 1 has become %d", n, after.Nodes[0].Seq)
		}
	}
}

// P9.7: whatever happens, results are valid, and Rounds make the flood settled.
func TestAnyOrder(t *testing.T) {
	next := random(4)
	for range 60 {
		f := tame(next, 1+next(12), next(5))
		for range 60 {
			router, k := f.Nodes[next(len(f.Nodes))].Router, next(len(f.Messages)+1)
			var have, want result
			switch next(12) {
			case 0:
				have, want = got(flooding.Originate(f, router)), originated(f, router)
			case 1:
				have, want = got(flooding.Restart(f, router)), restarted(f, router)
			case 2, 3, 4:
				have, want = got(flooding.Send(f, router)), sent(f, router)
			case 5, 6, 7:
				have, want = got(flooding.Deliver(f, k)), delivered(f, k)
			case 8:
				have, want = got(flooding.Lose(f, k)), lost(f, k)
			case 9:
				have, want = got(flooding.Double(f, k)), doubled(f, k)
			case 10:
				links := altered(next, f)
				have, want = got(flooding.Change(f, links)), changed(f, links)
			case 11:
				have, want = got(flooding.Round(f)), rounded(f)
			}
			expect(t, "a step", f, have, want)
			if have.e == api.OK {
				f = have.flood
			}
		}
		check(t, f, rounds(t, f, flooding.Rounds(len(f.Nodes))))
	}
}

// results returns what all functions make of a flood and numbers, as floods.
func results(f api.Flood, router, k int, links []api.Link) []api.Flood {
	var l []api.Flood
	add := func(g api.Flood, _ api.Errno) { l = append(l, g) }
	add(flooding.Start(api.Topology{Routers: flooding.Topology(f).Routers, Links: links}, owned(f)))
	add(flooding.Originate(f, router))
	add(flooding.Restart(f, router))
	add(flooding.Send(f, router))
	add(flooding.Deliver(f, k))
	add(flooding.Lose(f, k))
	add(flooding.Double(f, k))
	add(flooding.Change(f, links))
	add(flooding.Round(f))
	top := flooding.Topology(f)
	own, _ := flooding.Own(f, router)
	n := api.Node{Database: api.Database{Adverts: []api.Advert{own}}}
	return append(l, api.Flood{Links: top.Links}, api.Flood{Nodes: []api.Node{n}})
}

// equals reports whether lists of floods are equal.
func equals(a, b []api.Flood) bool { return slices.EqualFunc(a, b, equal) }

// P9.1 to P9.6, R5, R6: arguments stay as they are, and equal ones give equal results.
func TestArgumentsStay(t *testing.T) {
	next := random(5)
	l := append(valids(), full())
	for _, c := range invalids() {
		l = append(l, c.flood)
	}
	for _, f := range l {
		router, k, links := 1, 0, full().Links
		if flooding.Check(f) == api.OK {
			links = altered(next, f)
		}
		if len(f.Nodes) > 0 {
			router = f.Nodes[next(len(f.Nodes))].Router
		}
		if len(f.Messages) > 0 {
			k = next(len(f.Messages))
		}
		before, keptLinks := twin(f), slices.Clone(links)
		first := results(f, router, k, links)
		settled := flooding.Settled(f)
		if !equals(results(f, router, k, links), first) || flooding.Settled(f) != settled {
			t.Errorf("other results for %v", before)
		}
		if !equal(f, before) || !slices.Equal(links, keptLinks) {
			t.Errorf("%v has become %v", before, f)
		}
	}
}

// memory has all lists of a flood in which something can be written.
type memory struct {
	links  [][]api.Link
	nodes  [][]api.Node
	sent   [][]api.Message
	known  [][]api.Advert
	reach  [][]api.Reach
	claims [][]api.Claim
}

// lists returns all lists of a flood.
func lists(f api.Flood) memory {
	m := memory{links: [][]api.Link{f.Links}, nodes: [][]api.Node{f.Nodes}, sent: [][]api.Message{f.Messages}}
	databases := []api.Database{}
	for _, n := range f.Nodes {
		m.claims = append(m.claims, n.Claims)
		databases = append(databases, n.Database)
	}
	for _, x := range f.Messages {
		databases = append(databases, x.Database)
	}
	for _, d := range databases {
		m.known = append(m.known, d.Adverts)
		for _, a := range d.Adverts {
			m.reach = append(m.reach, a.Links)
			m.claims = append(m.claims, a.Claims)
		}
	}
	return m
}

// note notes where lists lie, with all the room behind them, and returns whether one lies where another one does.
func note[T any](seen map[*T]bool, lists [][]T) bool {
	shared := false
	for _, l := range lists {
		l = l[:cap(l)]
		for i := range l {
			shared = shared || seen[&l[i]]
			seen[&l[i]] = true
		}
	}
	return shared
}

// places notes where the lists of floods lie.
type places struct {
	links  map[*api.Link]bool
	nodes  map[*api.Node]bool
	sent   map[*api.Message]bool
	known  map[*api.Advert]bool
	reach  map[*api.Reach]bool
	claims map[*api.Claim]bool
}

// add notes the lists of a flood, and returns whether one lies where another one does.
func (p places) add(f api.Flood) bool {
	m := lists(f)
	shared := []bool{note(p.links, m.links), note(p.nodes, m.nodes), note(p.sent, m.sent), note(p.known, m.known), note(p.reach, m.reach), note(p.claims, m.claims)}
	return slices.Contains(shared, true)
}

// P9.1 to P9.6, R5: results share no memory with arguments, nor their parts with each other.
func TestMemory(t *testing.T) {
	next := random(6)
	for _, f := range append(valids(), full(), crowd(11, 300)) {
		p := places{map[*api.Link]bool{}, map[*api.Node]bool{}, map[*api.Message]bool{}, map[*api.Advert]bool{}, map[*api.Reach]bool{}, map[*api.Claim]bool{}}
		router, k, links := 1, 0, altered(next, f)
		if len(f.Nodes) > 0 {
			router = f.Nodes[next(len(f.Nodes))].Router
		}
		if len(f.Messages) > 0 {
			k = next(len(f.Messages))
		}
		p.add(f)
		p.add(api.Flood{Links: links})
		for i, g := range results(f, router, k, links) {
			if p.add(g) {
				t.Errorf("the result %d for %v shares memory", i, f)
			}
		}
	}
}

// P9.1 to P9.6, R5: the parts of a result share no memory, even where those of the argument do.
func TestMemoryParts(t *testing.T) {
	c := []api.Claim{{ID: 1, Length: 8}}
	d := api.Database{Adverts: []api.Advert{{Router: 50, Seq: 1, Links: []api.Reach{{Neighbour: 51, Cost: 1}}, Claims: c}}}
	f := pair()
	f.Nodes[0].Claims, f.Nodes[1].Claims = c, c
	f.Nodes[0].Database, f.Nodes[1].Database = d, d
	m := api.Message{From: 1, To: 2, Database: d}
	f.Messages = []api.Message{m, m, m}
	for i, g := range results(f, 1, 1, f.Links) {
		p := places{map[*api.Link]bool{}, map[*api.Node]bool{}, map[*api.Message]bool{}, map[*api.Advert]bool{}, map[*api.Reach]bool{}, map[*api.Claim]bool{}}
		p.add(f)
		if p.add(g) {
			t.Errorf("the parts of the result %d share memory", i)
		}
	}
}

// P9.7: an advert that is issued is always a valid one, newer than the one before.
func TestIssuedIsNewer(t *testing.T) {
	for _, f := range valids() {
		for _, n := range f.Nodes {
			before, was := flooding.Own(f, n.Router)
			g, e := flooding.Originate(f, n.Router)
			if e != api.OK {
				continue
			}
			after, is := flooding.Own(g, n.Router)
			if !is || !advert.Valid(after) || was && !advert.Newer(after, before) {
				t.Errorf("after %v the node %d says %v", before, n.Router, after)
			}
		}
	}
}
