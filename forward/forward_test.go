package forward_test

import (
	"fmt"
	"math"
	"slices"
	"strings"
	"testing"

	"bitcast/api"
	"bitcast/forward"
	"bitcast/masks"
	"bitcast/packet"
	"bitcast/table"
)

// far has numbers that are out of every range, some of which seem to be in one if only their lowest bits are looked at, or if they are multiplied.
var far = []int{math.MinInt, math.MinInt + 1, -1 << 61, -1 << 32, -1<<32 + 2, -257, -8, -2, -1, 1024, 1 << 32, 1<<32 + 1, 1<<32 + 2, 1 << 58, 1 << 61, 1<<61 + 1, 1 << 62, math.MaxInt - 1, math.MaxInt}

// lengths has the lengths of bit strings.
var lengths = []int{8, 16, 32, 64}

// random returns a fixed sequence of numbers below n, so that each run of the tests is the same.
func random(seed uint64) func(n int) int {
	return func(n int) int {
		seed = seed*6364136223846793005 + 1442695040888963407
		return int(seed >> 33 % uint64(n))
	}
}

// row returns a row with these next hops.
func row(id int, next ...int) api.Row { return api.Row{ID: id, Next: next} }

// of returns a table of the router 50 with these rows.
func of(length int, rows ...api.Row) api.Table {
	return api.Table{Router: 50, Subdomain: 3, Length: length, Rows: rows}
}

// upTo returns n numbers, the first one of which is low.
func upTo(low, n int) []int {
	var l []int
	for i := range n {
		l = append(l, low+i)
	}
	return l
}

// copied returns an equal table with memory of its own.
func copied(b api.Table) api.Table {
	c := b
	c.Rows = nil
	for _, r := range b.Rows {
		c.Rows = append(c.Rows, api.Row{ID: r.ID, Next: slices.Clone(r.Next)})
	}
	return c
}

// mixed returns a valid table with about one of thin identifiers. Its rows have the router itself, nothing, or up to most other next hops, of few different ones.
func mixed(next func(int) int, length, thin, most, different int) api.Table {
	b := api.Table{Router: 1 + next(99), Subdomain: next(8), Length: length}
	var routers []int
	for len(routers) < different {
		if r := 1 + next(99); r != b.Router && !slices.Contains(routers, r) {
			routers = append(routers, r)
		}
	}
	slices.Sort(routers)
	for id := 1; id <= 256; id++ {
		if next(thin) > 0 {
			continue
		}
		r := api.Row{ID: id}
		switch next(8) {
		case 0:
			r.Next = []int{b.Router}
		case 1:
		default:
			first := next(different)
			r.Next = slices.Clone(routers[first:min(different, first+1+next(most))])
		}
		b.Rows = append(b.Rows, r)
	}
	return b
}

// full returns a valid table with all identifiers, the rows of which have 0 to 24 next hops or the router itself.
func full(router, length int) api.Table {
	b := api.Table{Router: router, Length: length}
	for id := 1; id <= 256; id++ {
		r := row(id, upTo(1+id%76, id%25)...)
		if slices.Contains(r.Next, router) {
			r.Next = []int{router}
		}
		b.Rows = append(b.Rows, r)
	}
	return b
}

// tables returns valid tables of many kinds, in which identifiers have places.
func tables() []api.Table {
	l := []api.Table{
		{Router: 50, Length: 8}, {Router: 99, Subdomain: 7, Length: 64, Rows: []api.Row{}},
		of(8, row(1)), of(8, row(256, 50)), of(64, row(256, 1, 99)), of(16, row(16, 50), row(17, 50)),
		{Router: 1, Length: 32, Rows: []api.Row{row(1, 1), row(32, 2), row(33, 1), row(64, 99)}},
		{Router: 99, Subdomain: 7, Length: 8, Rows: []api.Row{row(8, 99), row(9, 1, 98), {ID: 249, Next: []int{}}, row(256, 99)}},
	}
	next := random(13)
	for _, length := range lengths {
		l = append(l, full(1, length), full(50, length), full(99, length))
		for _, thin := range []int{1, 3, 20} {
			l = append(l, mixed(next, length, thin, 1, 3), mixed(next, length, thin, 4, 6), mixed(next, length, thin, 9, 12), mixed(next, length, thin, 24, 40))
		}
	}
	return l
}

// randomPacket returns a valid packet of the subdomain and the length of a table, with this set.
func randomPacket(next func(int) int, b api.Table, set int) api.Packet {
	bits := uint64(next(1<<31))<<62 ^ uint64(next(1<<31))<<31 ^ uint64(next(1<<31))
	return api.Packet{
		Mode: api.ModeIndexed + 2*next(2), Subdomain: b.Subdomain, Set: set, Length: b.Length, TTL: next(64), Entropy: next(1024),
		Ingress: next(257), Proto: next(8), Bits: bits >> (64 - b.Length), Payload: strings.Repeat(string(rune('a'+next(26))), next(65)),
	}
}

// packets returns valid packets for a table: of each set some with any bits, with all and without any, with the least, the greatest and any TTL.
func packets(next func(int) int, b api.Table) []api.Packet {
	var l []api.Packet
	for set := range 32 {
		for _, ttl := range []int{0, 1, 63, next(64)} {
			p := randomPacket(next, b, set)
			p.TTL = ttl
			l = append(l, p)
			p.Bits, p.Entropy = math.MaxUint64>>(64-b.Length), next(1024)
			l = append(l, p)
		}
		p := randomPacket(next, b, set)
		p.Bits = 0
		l = append(l, p)
	}
	return l
}

// nextTo returns the next hop for an identifier in a plane, by the definition, from a valid table.
func nextTo(b api.Table, id, plane int) int {
	for _, r := range b.Rows {
		if r.ID == id && len(r.Next) > 0 {
			return r.Next[plane%len(r.Next)]
		}
	}
	return 0
}

// outcome returns what a router makes of a packet, by the definition: bit after bit, with a look at each other bit that is left.
func outcome(b api.Table, p api.Packet) api.Outcome {
	var o api.Outcome
	var left [64]bool
	var hops [64]int
	for k := range p.Length {
		left[k], hops[k] = p.Bits>>k%2 == 1, nextTo(b, p.Set*p.Length+k+1, p.Entropy%8)
	}
	for k := range p.Length {
		switch {
		case !left[k]:
			continue
		case hops[k] == 0:
			o.Lost += 1 << k
			continue
		case hops[k] == b.Router:
			o.Local += 1 << k
			continue
		}
		q := p
		q.TTL, q.Bits = p.TTL-1, 0
		for j := k; j < p.Length; j++ {
			if left[j] && hops[j] == hops[k] {
				left[j] = false
				q.Bits += 1 << j
			}
		}
		if p.TTL == 0 {
			o.Lost += q.Bits
		} else {
			o.Copies = append(o.Copies, api.Copy{To: hops[k], Frame: api.Frame{Packet: q}})
		}
	}
	return o
}

// same reports whether two outcomes are equal.
func same(a, b api.Outcome) bool {
	return a.Local == b.Local && a.Lost == b.Lost && slices.EqualFunc(a.Copies, b.Copies, func(x, y api.Copy) bool {
		return x.To == y.To && slices.Equal(x.Frame.Route, y.Frame.Route) && x.Frame.Packet == y.Frame.Packet
	})
}

// isZero reports whether an outcome is the zero outcome.
func isZero(o api.Outcome) bool { return same(o, api.Outcome{}) }

// sent returns a copy of a packet to a router, with these bits and this TTL.
func sent(p api.Packet, to int, bits uint64, ttl int) api.Copy {
	p.Bits, p.TTL = bits, ttl
	return api.Copy{To: to, Frame: api.Frame{Packet: p}}
}

// P13.1: the chapter's example, in all planes.
func TestExample(t *testing.T) {
	b := api.Table{Router: 1, Length: 8, Rows: []api.Row{row(1, 2, 3), row(2, 3)}}
	p := api.Packet{Mode: api.ModeIndexed, Length: 8, TTL: 4, Bits: 35}
	for entropy := range 1024 {
		p.Entropy = entropy
		want := api.Outcome{Lost: 32, Copies: []api.Copy{sent(p, 2, 1, 3), sent(p, 3, 2, 3)}}
		if entropy%2 == 1 {
			want.Copies = []api.Copy{sent(p, 3, 3, 3)}
		}
		if got, e := forward.Packet(b, p); e != api.OK || !same(got, want) {
			t.Errorf("with the entropy %d, the outcome is %v, %d", entropy, got, e)
		}
	}
}

// P13.1: known outcomes. Copies come about in the order of their least bits, not of their routers.
func TestPacketKnown(t *testing.T) {
	b := of(16, row(1), row(2, 50), row(3, 70), row(4, 7), row(5, 70), row(6, 7, 8, 9), row(8, 50), row(15, 51), row(16, 7), row(17, 50), row(256, 49))
	p := api.Packet{Mode: api.ModeProbe, Subdomain: 3, Set: 0, Length: 16, TTL: 9, Entropy: 1001, Ingress: 256, Proto: 7, Payload: "stream"}
	with := func(set, ttl, entropy int, bits uint64) api.Packet {
		q := p
		q.Set, q.TTL, q.Entropy, q.Bits = set, ttl, entropy, bits
		return q
	}
	for i, c := range []struct {
		p    api.Packet
		want api.Outcome
	}{
		{with(0, 9, 0, 0), api.Outcome{}},
		{with(0, 9, 0, 1), api.Outcome{Lost: 1}},
		{with(0, 9, 0, 2), api.Outcome{Local: 2}},
		{with(0, 9, 0, 1<<6|1<<8), api.Outcome{Lost: 1<<6 | 1<<8}},
		{with(0, 9, 0, 1<<2|1<<4), api.Outcome{Copies: []api.Copy{sent(with(0, 9, 0, 0), 70, 1<<2|1<<4, 8)}}},
		{with(0, 63, 0, 0xffff), api.Outcome{Local: 1<<1 | 1<<7, Lost: 1<<0 | 1<<6 | 0x3f<<8, Copies: []api.Copy{
			sent(with(0, 0, 0, 0), 70, 1<<2|1<<4, 62), sent(with(0, 0, 0, 0), 7, 1<<3|1<<5|1<<15, 62), sent(with(0, 0, 0, 0), 51, 1<<14, 62)}}},
		{with(0, 1, 1, 0xffff), api.Outcome{Local: 1<<1 | 1<<7, Lost: 1<<0 | 1<<6 | 0x3f<<8, Copies: []api.Copy{
			sent(with(0, 0, 1, 0), 70, 1<<2|1<<4, 0), sent(with(0, 0, 1, 0), 7, 1<<3|1<<15, 0), sent(with(0, 0, 1, 0), 8, 1<<5, 0), sent(with(0, 0, 1, 0), 51, 1<<14, 0)}}},
		{with(0, 2, 1021, 1<<5|1<<14|1<<15), api.Outcome{Copies: []api.Copy{
			sent(with(0, 0, 1021, 0), 9, 1<<5, 1), sent(with(0, 0, 1021, 0), 51, 1<<14, 1), sent(with(0, 0, 1021, 0), 7, 1<<15, 1)}}},
		{with(0, 0, 0, 0xffff), api.Outcome{Local: 1<<1 | 1<<7, Lost: 0xffff &^ (1<<1 | 1<<7)}},
		{with(1, 9, 0, 0xffff), api.Outcome{Local: 1, Lost: 0xfffe}},
		{with(15, 9, 7, 0xffff), api.Outcome{Lost: 0x7fff, Copies: []api.Copy{sent(with(15, 0, 7, 0), 49, 1<<15, 8)}}},
		{with(16, 9, 0, 0xffff), api.Outcome{Lost: 0xffff}}, {with(31, 9, 0, 0xffff), api.Outcome{Lost: 0xffff}},
	} {
		if got, e := forward.Packet(b, c.p); e != api.OK || !same(got, c.want) {
			t.Errorf("%d: the outcome is %v, %d, not %v", i, got, e, c.want)
		}
	}
}

// P13.1: a router of the document's square, whose table is built for a plan with an edge router that cannot be reached.
func TestSquare(t *testing.T) {
	n := api.Topology{Routers: []api.Router{{ID: 1, Capable: true}, {ID: 2, Capable: true}, {ID: 3, Capable: true}, {ID: 4, Capable: true}, {ID: 5, Capable: true}}}
	for _, ends := range [][2]int{{1, 2}, {1, 3}, {2, 4}, {3, 4}} {
		n.Links = append(n.Links, api.Link{A: ends[0], B: ends[1], CostA: 1, CostB: 1})
	}
	b, e := table.Build(n, api.Plan{Length: 8, Edges: []api.Edge{{Router: 3, ID: 1}, {Router: 4, ID: 2}, {Router: 1, ID: 3}, {Router: 5, ID: 4}, {Router: 2, ID: 8}}}, 1)
	if e != api.OK {
		t.Fatalf("Build is %d", e)
	}
	for plane := range 8 {
		p := api.Packet{Mode: api.ModeIndexed, Length: 8, TTL: 4, Entropy: plane, Bits: 255}
		want := api.Outcome{Local: 4, Lost: 8 + 112, Copies: []api.Copy{sent(p, 3, 1, 3), sent(p, 2, 130, 3)}}
		if plane%2 == 1 {
			want.Copies = []api.Copy{sent(p, 3, 3, 3), sent(p, 2, 128, 3)}
		}
		if got, e := forward.Packet(b, p); e != api.OK || !same(got, want) {
			t.Errorf("in the plane %d, the outcome is %v, %d", plane, got, e)
		}
	}
}

// P13.1: packets of all sets through tables of all kinds, against the definition.
func TestPacket(t *testing.T) {
	next := random(1)
	for i, b := range tables() {
		for _, p := range packets(next, b) {
			want := outcome(b, p)
			if got, e := forward.Packet(b, p); e != api.OK || !same(got, want) {
				t.Fatalf("%d: of %v the outcome is %v, %d, not %v", i, p, got, e, want)
			}
		}
	}
}

// P13.1: each number of a packet alone, with all its values: only the set, the plane and the TTL matter, and all else goes on as it is.
func TestPacketFields(t *testing.T) {
	next := random(2)
	for _, b := range []api.Table{full(50, 8), full(50, 64), mixed(next, 32, 1, 8, 12)} {
		least := api.Packet{Mode: api.ModeIndexed, Subdomain: b.Subdomain, Length: b.Length, TTL: 1, Bits: math.MaxUint64 >> (64 - b.Length)}
		check := func(change func(p *api.Packet)) {
			p := least
			change(&p)
			want := outcome(b, p)
			if got, e := forward.Packet(b, p); e != api.OK || !same(got, want) {
				t.Fatalf("of %v the outcome is %v, %d, not %v", p, got, e, want)
			}
		}
		check(func(p *api.Packet) { p.Mode = api.ModeProbe })
		for n := range 1024 {
			check(func(p *api.Packet) { p.Entropy = n })
			check(func(p *api.Packet) { p.Ingress = n % 257 })
			check(func(p *api.Packet) { p.Set, p.Proto = n%32, n/32%8 })
			check(func(p *api.Packet) { p.TTL = n % 64 })
			check(func(p *api.Packet) { p.Payload = strings.Repeat(string([]byte{byte(n)}), n%65) })
		}
		for bit := range b.Length {
			check(func(p *api.Packet) { p.Bits = 1 << bit })
			check(func(p *api.Packet) { p.Bits &^= 1 << bit })
		}
	}
}

// wrongTables returns tables of a length that are not valid, for all reasons.
func wrongTables(length int) []api.Table {
	spoilers := []func(b *api.Table){
		func(b *api.Table) { b.Router = 0 },
		func(b *api.Table) { b.Router = 100 },
		func(b *api.Table) { b.Subdomain = 8 },
		func(b *api.Table) { b.Length = 0 },
		func(b *api.Table) { b.Length = 24 },
		func(b *api.Table) { b.Rows[0].ID = 0 },
		func(b *api.Table) { b.Rows[7].ID = 257 },
		func(b *api.Table) { b.Rows[7].Next[23] = 100 },
		func(b *api.Table) { b.Rows[0].Next[0] = 0 },
		func(b *api.Table) { b.Rows[7].Next = upTo(60, 25) },
		func(b *api.Table) { b.Rows = append(b.Rows, slices.Repeat([]api.Row{row(256, 3)}, 250)...) },
		func(b *api.Table) { b.Rows[1].ID = 1 },
		func(b *api.Table) { b.Rows[6], b.Rows[7] = b.Rows[7], b.Rows[6] },
		func(b *api.Table) { b.Rows[4].Next = []int{3, 3} },
		func(b *api.Table) { b.Rows[4].Next = []int{3, 2} },
		func(b *api.Table) { b.Rows[0].Next = []int{50, 51} },
		func(b *api.Table) { b.Rows[7].Next = []int{49, 50} },
	}
	for _, n := range far {
		spoilers = append(spoilers,
			func(b *api.Table) { b.Router = n }, func(b *api.Table) { b.Subdomain = n }, func(b *api.Table) { b.Length = n },
			func(b *api.Table) { b.Rows[0].ID = n }, func(b *api.Table) { b.Rows[7].ID = n }, func(b *api.Table) { b.Rows[7].Next[23] = n })
	}
	var l []api.Table
	for _, spoil := range spoilers {
		b := of(length, row(1, 50), row(2, 1), row(7, 2), row(8, 49, 51), row(9, 1, 2, 3), row(100, 50), row(255, 1, 99), row(256, upTo(60, 24)...))
		spoil(&b)
		l = append(l, b)
	}
	return l
}

// right returns a valid packet of the subdomain 3.
func right(length int) api.Packet {
	return api.Packet{Mode: api.ModeIndexed, Subdomain: 3, Length: length, TTL: 9, Entropy: 3, Ingress: 1, Proto: 1, Bits: 255, Payload: "x"}
}

// wrongPackets returns packets that are not valid, for all reasons.
func wrongPackets(length int) []api.Packet {
	var l []api.Packet
	add := func(spoil func(p *api.Packet)) {
		p := right(length)
		spoil(&p)
		l = append(l, p)
	}
	for _, spoil := range []func(p *api.Packet){
		func(p *api.Packet) { p.Mode = 0 }, func(p *api.Packet) { p.Mode = 4 }, func(p *api.Packet) { p.Subdomain = 8 },
		func(p *api.Packet) { p.Set = 32 }, func(p *api.Packet) { p.Length = 0 }, func(p *api.Packet) { p.Length = 24 },
		func(p *api.Packet) { p.TTL = 64 }, func(p *api.Packet) { p.Ingress = 257 }, func(p *api.Packet) { p.Proto = 8 },
		func(p *api.Packet) { p.Payload = strings.Repeat("x", 65) },
	} {
		add(spoil)
	}
	if length < 64 {
		add(func(p *api.Packet) { p.Bits = 1 << length })
		add(func(p *api.Packet) { p.Bits |= 1 << 63 })
	}
	for _, n := range far {
		for _, spoil := range []func(p *api.Packet){
			func(p *api.Packet) { p.Mode = n }, func(p *api.Packet) { p.Subdomain = n }, func(p *api.Packet) { p.Set = n }, func(p *api.Packet) { p.Length = n },
			func(p *api.Packet) { p.TTL = n }, func(p *api.Packet) { p.Entropy = n }, func(p *api.Packet) { p.Ingress = n }, func(p *api.Packet) { p.Proto = n },
		} {
			add(spoil)
		}
	}
	return l
}

// refused checks that Packet returns this error, and nothing else.
func refused(t *testing.T, b api.Table, p api.Packet, want api.Errno) {
	t.Helper()
	if got, e := forward.Packet(b, p); e != want || !isZero(got) {
		t.Errorf("with the table %v, the outcome of %v is %v, %d, not the error %d", b, p, got, e, want)
	}
}

// P13.1: each error alone.
func TestErrors(t *testing.T) {
	for _, length := range lengths {
		b := of(length, row(1, 50), row(2, 1), row(256, 7))
		if got, e := forward.Packet(b, right(length)); e != api.OK || isZero(got) {
			t.Fatalf("the outcome of %v is %v, %d", right(length), got, e)
		}
		for _, wrong := range wrongTables(length) {
			refused(t, wrong, right(length), api.ErrInvalid)
		}
		for _, wrong := range wrongPackets(length) {
			refused(t, b, wrong, api.ErrInvalid)
		}
		engineered := right(length)
		engineered.Mode = api.ModeEngineered
		refused(t, b, engineered, api.ErrState)
		for other := range 8 {
			p := right(length)
			p.Subdomain = other
			if other != 3 {
				refused(t, b, p, api.ErrConflict)
			}
		}
		for _, other := range lengths {
			if other != length {
				refused(t, b, right(other), api.ErrConflict)
			}
		}
		refused(t, api.Table{Router: 50, Subdomain: 3}, right(length), api.ErrConflict)
	}
}

// P13.1: the order of the errors. Each case has all the mistakes of those that follow.
func TestOrderOfErrors(t *testing.T) {
	for _, length := range lengths {
		b := of(length, row(1, 50), row(2, 1), row(256, 7))
		p := right(length)
		p.Subdomain = 4
		refused(t, b, p, api.ErrConflict)
		p.Mode = api.ModeEngineered
		refused(t, b, p, api.ErrState)
		other := right(lengths[(slices.Index(lengths, length)+1)%4])
		other.Mode = api.ModeEngineered
		refused(t, b, other, api.ErrState)
		for _, wrong := range wrongTables(length) {
			refused(t, wrong, p, api.ErrInvalid)
			refused(t, wrong, other, api.ErrInvalid)
		}
		for _, wrong := range wrongPackets(length) {
			if wrong.Mode == api.ModeIndexed {
				wrong.Mode = api.ModeEngineered
			}
			refused(t, b, wrong, api.ErrInvalid)
			refused(t, api.Table{Router: 50, Subdomain: 5, Length: length}, wrong, api.ErrInvalid)
		}
	}
}

// P13.1: packets without bits and tables without rows have the same errors.
func TestErrorsOfEmpty(t *testing.T) {
	p := right(8)
	p.Bits = 0
	if got, e := forward.Packet(of(8), p); e != api.OK || !isZero(got) {
		t.Errorf("the outcome of a packet without bits is %v, %d", got, e)
	}
	if got, e := forward.Packet(of(8), right(8)); e != api.OK || !same(got, api.Outcome{Lost: 255}) {
		t.Errorf("the outcome with a table without rows is %v, %d", got, e)
	}
	for _, c := range []struct {
		change func(b *api.Table, p *api.Packet)
		want   api.Errno
	}{
		{func(b *api.Table, p *api.Packet) { b.Router = 0 }, api.ErrInvalid},
		{func(b *api.Table, p *api.Packet) { p.TTL = 64 }, api.ErrInvalid},
		{func(b *api.Table, p *api.Packet) { *p = api.Packet{} }, api.ErrInvalid},
		{func(b *api.Table, p *api.Packet) { *b = api.Table{} }, api.ErrInvalid},
		{func(b *api.Table, p *api.Packet) { p.Mode = api.ModeEngineered }, api.ErrState},
		{func(b *api.Table, p *api.Packet) { b.Subdomain = 0 }, api.ErrConflict},
		{func(b *api.Table, p *api.Packet) { b.Length = 0 }, api.ErrConflict},
		{func(b *api.Table, p *api.Packet) { p.Length = 16 }, api.ErrConflict},
	} {
		b, q := of(8), p
		c.change(&b, &q)
		refused(t, b, q, c.want)
	}
}

// deliveries returns what Local returns, by the definition.
func deliveries(router int, local uint64, p api.Packet) []api.Delivery {
	var l []api.Delivery
	for bit := range 64 {
		if local>>bit%2 == 1 {
			l = append(l, api.Delivery{Router: router, Packet: packet.Only(p, bit)})
		}
	}
	return l
}

// P13.2: the deliveries of known outcomes. What the packet does not have is delivered as the zero packet, as Only has it.
func TestLocalKnown(t *testing.T) {
	p := api.Packet{Mode: api.ModeProbe, Subdomain: 7, Set: 31, Length: 64, TTL: 63, Entropy: 1023, Ingress: 256, Proto: 7, Bits: 1<<63 | 1<<40 | 5, Payload: "stream"}
	one := func(bit int) api.Delivery {
		q := p
		q.Bits = 1 << bit
		return api.Delivery{Router: 9, Packet: q}
	}
	for i, c := range []struct {
		local uint64
		want  []api.Delivery
	}{
		{0, nil}, {1, []api.Delivery{one(0)}}, {4, []api.Delivery{one(2)}}, {5, []api.Delivery{one(0), one(2)}}, {1 << 63, []api.Delivery{one(63)}},
		{1<<63 | 1<<40 | 5, []api.Delivery{one(0), one(2), one(40), one(63)}}, {2, []api.Delivery{{Router: 9}}}, {7, []api.Delivery{one(0), {Router: 9}, one(2)}},
	} {
		if got := forward.Local(of(64), 9, api.Outcome{Local: c.local}, p); !slices.Equal(got, c.want) {
			t.Errorf("%d: Local is %v, not %v", i, got, c.want)
		}
	}
}

// P13.2: any routers, bits and packets. Neither the table nor anything but Local of the outcome is looked at.
func TestLocal(t *testing.T) {
	next := random(3)
	routers := append(upTo(0, 101), far...)
	for i, b := range append(tables(), append(wrongTables(32), api.Table{})...) {
		for _, p := range append(wrongPackets(lengths[i%4]), randomPacket(next, of(64), 31), randomPacket(next, of(8), 0), api.Packet{}) {
			for _, local := range []uint64{0, 1, 128, 256, 1 << 63, p.Bits, uint64(next(1<<31)) << next(33), math.MaxUint64} {
				router := routers[next(len(routers))]
				o := api.Outcome{Local: local, Lost: uint64(next(256)), Copies: []api.Copy{sent(p, 3, 1, 2)}[:next(2)]}
				if got := forward.Local(b, router, o, p); !slices.Equal(got, deliveries(router, local, p)) {
					t.Fatalf("Local of the bits %x and %v at %d is %v", local, p, router, got)
				}
			}
		}
	}
}

// P13.2: the deliveries of what Packet returns: each of them has one own bit, and all else as the packet.
func TestLocalOfPacket(t *testing.T) {
	next := random(4)
	for i, b := range tables() {
		for _, p := range packets(next, b) {
			o, _ := forward.Packet(b, p)
			got := forward.Local(b, b.Router, o, p)
			var want []api.Delivery
			for bit := range 64 {
				if q := p; o.Local>>bit%2 == 1 {
					q.Bits = 1 << bit
					want = append(want, api.Delivery{Router: b.Router, Packet: q})
				}
			}
			if !slices.Equal(got, want) {
				t.Fatalf("%d: Local of %v is %v, not %v", i, p, got, want)
			}
		}
	}
}

// P13.3: known outcomes, also such as Packet never returns.
func TestBitsKnown(t *testing.T) {
	p := right(64)
	for i, c := range []struct {
		o    api.Outcome
		want uint64
	}{
		{api.Outcome{}, 0}, {api.Outcome{Local: 5}, 5}, {api.Outcome{Lost: 6}, 6}, {api.Outcome{Local: 5, Lost: 6}, 7},
		{api.Outcome{Copies: []api.Copy{sent(p, 1, 8, 1)}}, 8},
		{api.Outcome{Copies: []api.Copy{{}}}, 0},
		{api.Outcome{Local: 1, Lost: 2, Copies: []api.Copy{sent(p, 1, 12, 1), sent(p, 1, 24, 1), sent(p, 0, 1<<63, -1)}}, 1<<63 | 31},
		{api.Outcome{Lost: 1, Copies: []api.Copy{{To: -1, Frame: api.Frame{Route: []int{4, 4}, Packet: api.Packet{Length: 8, Bits: 1 << 40}}}}}, 1<<40 | 1},
		{api.Outcome{Local: math.MaxUint64, Lost: math.MaxUint64, Copies: []api.Copy{sent(p, 1, math.MaxUint64, 1)}}, math.MaxUint64},
	} {
		if got := forward.Bits(c.o); got != c.want {
			t.Errorf("%d: Bits are %x, not %x", i, got, c.want)
		}
	}
}

// P13.3: each single bit, at each place of an outcome.
func TestBits(t *testing.T) {
	for bit := range 64 {
		one := uint64(1) << bit
		l := []api.Outcome{{Local: one}, {Lost: one}}
		for n := range 40 {
			o := api.Outcome{Copies: make([]api.Copy, 40)}
			o.Copies[n].Frame.Packet.Bits = one
			l = append(l, o)
		}
		for i, o := range l {
			if got := forward.Bits(o); got != one {
				t.Errorf("%d: Bits are %x, not %x", i, got, one)
			}
		}
	}
}

// P13.4: all bits of a packet are at exactly one place, and each copy goes to another router, with what the packet and its mask have.
func TestConsequences(t *testing.T) {
	next := random(5)
	for i, b := range tables() {
		for _, p := range packets(next, b) {
			o, _ := forward.Packet(b, p)
			parts := []uint64{o.Local, o.Lost}
			to := map[int]bool{b.Router: true}
			for _, c := range o.Copies {
				q := c.Frame.Packet
				parts = append(parts, q.Bits)
				if to[c.To] || len(c.Frame.Route) > 0 {
					t.Errorf("%d: of %v the copies are %v", i, p, o.Copies)
				}
				to[c.To] = true
				if mask := masks.Mask(b, packet.Plane(p), p.Set, c.To); q.Bits != p.Bits&mask || q.Bits == 0 {
					t.Errorf("%d: of %v the copy to %d has the bits %x; the mask is %x", i, p, c.To, q.Bits, mask)
				}
			}
			var union uint64
			for _, part := range parts {
				if union&part != 0 {
					t.Errorf("%d: of %v the outcome %v has bits twice", i, p, o)
				}
				union |= part
			}
			if union != p.Bits || forward.Bits(o) != p.Bits {
				t.Errorf("%d: of %v the outcome has the bits %x", i, p, union)
			}
			if p.TTL == 0 && len(o.Copies) > 0 {
				t.Errorf("%d: of %v, whose TTL is 0, there are copies", i, p)
			}
		}
	}
}

// places returns where the bits of an outcome go: for each bit the router of its copy, 0 if it is delivered, -1 if it is lost; -2 for others.
func places(o api.Outcome) [64]int {
	var l [64]int
	for bit := range l {
		l[bit] = -2
		if o.Local>>bit%2 == 1 {
			l[bit] = 0
		}
		if o.Lost>>bit%2 == 1 {
			l[bit] = -1
		}
		for _, c := range o.Copies {
			if c.Frame.Packet.Bits>>bit%2 == 1 {
				l[bit] = c.To
			}
		}
	}
	return l
}

// P13.4: packets with different bits of a packet, one by one, give the same routers and bits: with single bits, and with two parts.
func TestOneByOne(t *testing.T) {
	next := random(6)
	for i, b := range tables() {
		for range 60 {
			p := randomPacket(next, b, next(256/b.Length))
			whole, _ := forward.Packet(b, p)
			want := places(whole)
			part := p.Bits & (uint64(next(1<<31))<<33 | uint64(next(1<<31)))
			for _, bits := range []uint64{part, p.Bits &^ part, 1 << next(b.Length), 1 << next(b.Length)} {
				q := p
				q.Bits &= bits
				o, _ := forward.Packet(b, q)
				got := places(o)
				for bit := range 64 {
					if wanted := q.Bits>>bit%2 == 1; wanted && got[bit] != want[bit] || !wanted && got[bit] != -2 {
						t.Fatalf("%d: the bit %d of %v is at %d; with the other ones it is at %d", i, bit, q, got[bit], want[bit])
					}
				}
			}
		}
	}
}

// answers returns what all functions answer, as a text.
func answers(b api.Table, p api.Packet, o api.Outcome) string {
	got, e := forward.Packet(b, p)
	return fmt.Sprintln(got, e, forward.Bits(got), forward.Bits(o), forward.Local(b, b.Router, got, p), forward.Local(b, 7, o, p))
}

// R5, R6: all functions leave their arguments as they are, and answer the same again, in memory of their own.
func TestArgumentsStay(t *testing.T) {
	next := random(7)
	for i, b := range append(tables(), wrongTables(16)...) {
		p := right(16)
		if i < len(tables()) {
			p = randomPacket(next, b, 0)
		}
		o := api.Outcome{Local: p.Bits, Lost: 1, Copies: []api.Copy{{To: 2, Frame: api.Frame{Route: []int{3, 4}, Packet: p}}, sent(p, 5, 1, 2)}}
		kept := copied(b)
		first := answers(b, p, o)
		got, _ := forward.Packet(b, p)
		for k := range got.Copies {
			got.Copies[k].To = -1
			got.Copies[k].Frame.Route = append(got.Copies[k].Frame.Route[:cap(got.Copies[k].Frame.Route)], -1)
		}
		for k, l := 0, forward.Local(b, 7, o, p); k < len(l); k++ {
			l[k] = api.Delivery{Router: -1}
		}
		if again := answers(b, p, o); again != first {
			t.Errorf("%d: the answers are first\n%s, then\n%s", i, first, again)
		}
		if !table.Same(b, kept) {
			t.Errorf("%d: the table has changed", i)
		}
		want := api.Outcome{Local: p.Bits, Lost: 1, Copies: []api.Copy{{To: 2, Frame: api.Frame{Route: []int{3, 4}, Packet: p}}, sent(p, 5, 1, 2)}}
		if !same(o, want) {
			t.Errorf("%d: the outcome has changed", i)
		}
	}
}
