package masks_test

import (
	"fmt"
	"math"
	"math/bits"
	"slices"
	"testing"

	"bitcast/api"
	"bitcast/masks"
	"bitcast/table"
)

// far has numbers that are out of every range, some of which seem to be in one if only their lowest bits are looked at, or if they are multiplied.
var far = []int{math.MinInt, math.MinInt + 1, -1 << 61, -1 << 32, -1<<32 + 2, -257, -8, -2, -1, 257, 258, 1 << 32, 1<<32 + 1, 1<<32 + 2, 1 << 58, 1 << 61, 1<<61 + 1, 1 << 62, math.MaxInt - 1, math.MaxInt}

// lengths has the lengths of bit strings.
var lengths = []int{8, 16, 32, 64}

// random returns a fixed sequence of numbers below n, so that each run of the tests is the same.
func random(seed uint64) func(n int) int {
	return func(n int) int {
		seed = seed*6364136223846793005 + 1442695040888963407
		return int(seed >> 33 % uint64(n))
	}
}

// row returns a row with these next hops.
func row(id int, next ...int) api.Row { return api.Row{ID: id, Next: next} }

// of returns a table of the router 50 with these rows.
func of(length int, rows ...api.Row) api.Table {
	return api.Table{Router: 50, Subdomain: 3, Length: length, Rows: rows}
}

// upTo returns n numbers, the first one of which is low.
func upTo(low, n int) []int {
	var l []int
	for i := range n {
		l = append(l, low+i)
	}
	return l
}

// copied returns an equal table with memory of its own.
func copied(b api.Table) api.Table {
	c := b
	c.Rows = nil
	for _, r := range b.Rows {
		c.Rows = append(c.Rows, api.Row{ID: r.ID, Next: slices.Clone(r.Next)})
	}
	return c
}

// mixed returns a valid table with about one of thin identifiers. Its rows have the router itself, nothing, or up to most other next hops, of few different ones.
func mixed(next func(int) int, length, thin, most, different int) api.Table {
	b := api.Table{Router: 1 + next(99), Subdomain: next(8), Length: length}
	var routers []int
	for len(routers) < different {
		if r := 1 + next(99); r != b.Router && !slices.Contains(routers, r) {
			routers = append(routers, r)
		}
	}
	slices.Sort(routers)
	for id := 1; id <= 256; id++ {
		if next(thin) > 0 {
			continue
		}
		r := api.Row{ID: id}
		switch next(8) {
		case 0:
			r.Next = []int{b.Router}
		case 1:
		default:
			first := next(different)
			r.Next = slices.Clone(routers[first:min(different, first+1+next(most))])
		}
		b.Rows = append(b.Rows, r)
	}
	return b
}

// full returns a valid table with all identifiers, the rows of which have 0 to 24 next hops or the router itself.
func full(router, length int) api.Table {
	b := api.Table{Router: router, Length: length}
	for id := 1; id <= 256; id++ {
		r := row(id, upTo(1+id%76, id%25)...)
		if slices.Contains(r.Next, router) {
			r.Next = []int{router}
		}
		b.Rows = append(b.Rows, r)
	}
	return b
}

// tables returns valid tables of many kinds.
func tables() []api.Table {
	l := []api.Table{
		{Router: 1}, {Router: 99, Subdomain: 7, Rows: []api.Row{}}, {Router: 50, Length: 8},
		of(8, row(1)), of(8, row(256, 50)), of(64, row(256, 1, 99)), of(16, row(16, 50), row(17, 50)),
		{Router: 1, Length: 32, Rows: []api.Row{row(1, 1), row(32, 2), row(33, 1), row(64, 99)}},
		{Router: 99, Subdomain: 7, Length: 8, Rows: []api.Row{row(8, 99), row(9, 1, 98), {ID: 249, Next: []int{}}, row(256, 99)}},
	}
	next := random(12)
	for _, length := range lengths {
		l = append(l, full(1, length), full(50, length), full(99, length))
		for _, thin := range []int{1, 3, 20} {
			l = append(l, mixed(next, length, thin, 1, 3), mixed(next, length, thin, 4, 6), mixed(next, length, thin, 9, 12), mixed(next, length, thin, 24, 40))
		}
	}
	return l
}

// nextTo returns the next hop for an identifier in a plane, by the definition, from a valid table.
func nextTo(b api.Table, id, plane int) int {
	for _, r := range b.Rows {
		if r.ID == id && len(r.Next) > 0 && plane >= 0 && plane <= 7 {
			return r.Next[plane%len(r.Next)]
		}
	}
	return 0
}

// masksOf returns the masks of all neighbours by the definition, from a valid table: for each bit of the set it looks for the next hop.
func masksOf(b api.Table, plane, set int) [100]uint64 {
	var l [100]uint64
	if set < 0 || set > 31 {
		return l
	}
	for bit := range b.Length {
		if next := nextTo(b, set*b.Length+bit+1, plane); next != 0 {
			l[next] |= 1 << bit
		}
	}
	return l
}

// planes returns all planes, and numbers that are none.
func planes() []int { return append(upTo(-3, 14), far...) }

// sets returns all sets, and numbers that are none.
func sets() []int { return append(upTo(-2, 36), far...) }

// example returns the table of the chapter's example.
func example() api.Table {
	return api.Table{Router: 1, Length: 8, Rows: []api.Row{row(1, 2, 3), row(2, 3)}}
}

// P12.1 to P12.4: the chapter's example, in all planes.
func TestExample(t *testing.T) {
	b := example()
	for plane := range 8 {
		first, want := 2, []api.Masked{{Neighbour: 2, Bits: 1}, {Neighbour: 3, Bits: 2}}
		if plane%2 == 1 {
			first, want = 3, []api.Masked{{Neighbour: 3, Bits: 3}}
		}
		if one, two := masks.Next(b, 1, plane), masks.Next(b, 2, plane); one != first || two != 3 {
			t.Errorf("in the plane %d, the next hops are %d and %d", plane, one, two)
		}
		if got := masks.All(b, plane, 0); !slices.Equal(got, want) {
			t.Errorf("in the plane %d, All is %v", plane, got)
		}
		if got := masks.All(b, plane, 1); len(got) != 0 {
			t.Errorf("in the plane %d, All of the set 1 is %v", plane, got)
		}
	}
	if got := []uint64{masks.Mask(b, 0, 0, 2), masks.Mask(b, 0, 0, 3), masks.Mask(b, 1, 0, 2), masks.Mask(b, 1, 0, 3)}; !slices.Equal(got, []uint64{1, 2, 0, 3}) {
		t.Errorf("the masks are %v", got)
	}
	if local, reach := masks.Local(b, 0), masks.Reach(b, 0); local != 0 || reach != 3 {
		t.Errorf("Local is %d, Reach %d", local, reach)
	}
	if one, two := masks.Planes(b.Rows[0]), masks.Planes(b.Rows[1]); !slices.Equal(one, []int{4, 4}) || !slices.Equal(two, []int{8}) {
		t.Errorf("Planes are %v and %v", one, two)
	}
}

// P12.1 to P12.3: the document's example of a square with equal costs, and an edge router that cannot be reached.
func TestSquare(t *testing.T) {
	n := api.Topology{Routers: []api.Router{{ID: 1, Capable: true}, {ID: 2, Capable: true}, {ID: 3, Capable: true}, {ID: 4, Capable: true}, {ID: 5, Capable: true}}}
	for _, ends := range [][2]int{{1, 2}, {1, 3}, {2, 4}, {3, 4}} {
		n.Links = append(n.Links, api.Link{A: ends[0], B: ends[1], CostA: 1, CostB: 1})
	}
	p := api.Plan{Length: 8, Edges: []api.Edge{{Router: 4, ID: 1}, {Router: 1, ID: 8}, {Router: 2, ID: 9}, {Router: 5, ID: 10}, {Router: 3, ID: 16}}}
	b, e := table.Build(n, p, 1)
	if e != api.OK {
		t.Fatalf("Build is %d", e)
	}
	for plane := range 8 {
		next := 2 + plane%2
		if got := masks.Next(b, 1, plane); got != next {
			t.Errorf("in the plane %d, the next hop to 4 is %d", plane, got)
		}
		if got := masks.All(b, plane, 0); !slices.Equal(got, []api.Masked{{Neighbour: 1, Bits: 128}, {Neighbour: next, Bits: 1}}) {
			t.Errorf("in the plane %d, All of the set 0 is %v", plane, got)
		}
		if got := masks.All(b, plane, 1); !slices.Equal(got, []api.Masked{{Neighbour: 2, Bits: 1}, {Neighbour: 3, Bits: 128}}) {
			t.Errorf("in the plane %d, All of the set 1 is %v", plane, got)
		}
	}
	if got := []uint64{masks.Local(b, 0), masks.Local(b, 1), masks.Reach(b, 0), masks.Reach(b, 1), masks.Reach(b, 2)}; !slices.Equal(got, []uint64{128, 0, 129, 129, 0}) {
		t.Errorf("Local and Reach are %v", got)
	}
}

// P12.1: known rows with 0 to 24 next hops.
func TestNextKnown(t *testing.T) {
	b := of(16, row(1), row(3, 50), row(4, 7, 60), row(9, 5, 6, 8), row(100, 1, 2, 3, 4, 99), row(200, upTo(20, 8)...), row(255, upTo(30, 9)...), row(256, upTo(60, 24)...))
	for _, c := range []struct {
		id   int
		want []int
	}{
		{1, []int{0, 0, 0, 0, 0, 0, 0, 0}}, {2, []int{0, 0, 0, 0, 0, 0, 0, 0}}, {3, []int{50, 50, 50, 50, 50, 50, 50, 50}},
		{4, []int{7, 60, 7, 60, 7, 60, 7, 60}}, {9, []int{5, 6, 8, 5, 6, 8, 5, 6}}, {100, []int{1, 2, 3, 4, 99, 1, 2, 3}},
		{200, upTo(20, 8)}, {254, []int{0, 0, 0, 0, 0, 0, 0, 0}}, {255, upTo(30, 8)}, {256, upTo(60, 8)},
		{0, []int{0, 0, 0, 0, 0, 0, 0, 0}}, {-1, []int{0, 0, 0, 0, 0, 0, 0, 0}}, {257, []int{0, 0, 0, 0, 0, 0, 0, 0}}, {260, []int{0, 0, 0, 0, 0, 0, 0, 0}},
	} {
		for plane, want := range c.want {
			if got := masks.Next(b, c.id, plane); got != want {
				t.Errorf("Next of %d in the plane %d is %d, not %d", c.id, plane, got, want)
			}
		}
	}
}

// P12.1: all identifiers and planes, and numbers that are none.
func TestNext(t *testing.T) {
	for i, b := range tables() {
		for _, plane := range planes() {
			for _, id := range append(upTo(-2, 262), far...) {
				want := nextTo(b, id, plane)
				if got := masks.Next(b, id, plane); got != want {
					t.Errorf("%d: Next of %d in the plane %d is %d, not %d", i, id, plane, got, want)
				}
			}
		}
	}
}

// P12.2: known masks, in the first and the last sets of each length.
func TestMaskKnown(t *testing.T) {
	rows := []api.Row{row(1, 2), row(8, 50), row(9, 2, 99), row(16, 1, 2, 3), row(17, 2), row(33), row(64, 2), row(65, 50), row(249, 2), row(256, 2, 4)}
	for _, c := range []struct {
		length, plane, set, neighbour int
		want                          uint64
	}{
		{8, 0, 0, 2, 1}, {8, 0, 0, 50, 128}, {8, 0, 1, 2, 1}, {8, 1, 1, 2, 128}, {8, 1, 1, 99, 1}, {8, 0, 1, 1, 128}, {8, 2, 1, 2, 1}, {8, 4, 1, 2, 129},
		{8, 0, 2, 2, 1}, {8, 0, 3, 2, 0}, {8, 0, 4, 2, 0}, {8, 0, 7, 2, 128}, {8, 0, 8, 50, 1}, {8, 0, 31, 2, 129}, {8, 1, 31, 2, 1}, {8, 7, 31, 4, 128},
		{16, 4, 0, 2, 1<<0 | 1<<8 | 1<<15}, {16, 0, 0, 50, 1 << 7}, {16, 0, 1, 2, 1}, {16, 0, 15, 2, 1<<8 | 1<<15}, {16, 0, 16, 2, 0},
		{32, 4, 0, 2, 1<<0 | 1<<8 | 1<<15 | 1<<16}, {32, 0, 1, 2, 1 << 31}, {32, 0, 7, 2, 1<<24 | 1<<31}, {32, 0, 8, 2, 0},
		{64, 4, 0, 2, 1<<0 | 1<<8 | 1<<15 | 1<<16 | 1<<63}, {64, 0, 1, 50, 1}, {64, 0, 3, 2, 1<<56 | 1<<63}, {64, 1, 3, 4, 1 << 63}, {64, 0, 4, 2, 0}, {64, 0, 31, 2, 0},
		{8, 0, 0, 0, 0}, {32, 0, 1, 0, 0}, {8, 0, 0, 3, 0}, {8, 0, 0, 100, 0}, {8, 0, 0, -1, 0}, {8, 0, 32, 2, 0}, {8, 0, -1, 2, 0}, {8, 8, 0, 2, 0}, {8, -1, 0, 2, 0},
	} {
		if got := masks.Mask(of(c.length, rows...), c.plane, c.set, c.neighbour); got != c.want {
			t.Errorf("with the length %d, Mask in the plane %d of the set %d for %d is %x, not %x", c.length, c.plane, c.set, c.neighbour, got, c.want)
		}
	}
}

// P12.2: the masks of neighbours, and of numbers that are out of range.
func TestMask(t *testing.T) {
	next := random(2)
	outside := append([]int{0, 100, 101, 128}, far...)
	for i, b := range tables() {
		for _, plane := range planes() {
			for _, set := range sets() {
				all := masksOf(b, plane, set)
				// There are too many neighbours for all of them each time.
				for _, neighbour := range []int{b.Router, 1 + next(99), max(1, nextTo(b, 1+next(256), next(8))), max(1, nextTo(b, 1+next(256), plane))} {
					if got := masks.Mask(b, plane, set, neighbour); got != all[neighbour] {
						t.Errorf("%d: Mask in the plane %d of the set %d for %d is %x, not %x", i, plane, set, neighbour, got, all[neighbour])
					}
				}
				for _, neighbour := range []int{0, outside[next(len(outside))]} {
					if got := masks.Mask(b, plane, set, neighbour); got != 0 {
						t.Errorf("%d: Mask in the plane %d of the set %d for %d is %x", i, plane, set, neighbour, got)
					}
				}
			}
		}
	}
}

// P12.2: All has exactly the masks that are not 0, ascending by neighbour.
func TestAll(t *testing.T) {
	for i, b := range tables() {
		for _, plane := range planes() {
			for _, set := range sets() {
				var want []api.Masked
				for neighbour, mask := range masksOf(b, plane, set) {
					if mask != 0 {
						want = append(want, api.Masked{Neighbour: neighbour, Bits: mask})
					}
				}
				if got := masks.All(b, plane, set); !slices.Equal(got, want) {
					t.Errorf("%d: All in the plane %d of the set %d is %v, not %v", i, plane, set, got, want)
				}
			}
		}
	}
}

// P12.2: the router itself is in All, at its place, and neighbours are in ascending order, though the rows are not.
func TestAllWithRouter(t *testing.T) {
	b := of(16, row(1, 99), row(2, 50), row(3, 7), row(4, 99), row(5), row(6, 51), row(7, 50), row(8, 1), row(9, 49), row(16, 50), row(17, 2))
	want := []api.Masked{{Neighbour: 1, Bits: 1 << 7}, {Neighbour: 7, Bits: 1 << 2}, {Neighbour: 49, Bits: 1 << 8}, {Neighbour: 50, Bits: 1<<1 | 1<<6 | 1<<15}, {Neighbour: 51, Bits: 1 << 5}, {Neighbour: 99, Bits: 1<<0 | 1<<3}}
	for plane := range 8 {
		if got := masks.All(b, plane, 0); !slices.Equal(got, want) {
			t.Errorf("in the plane %d, All is %v", plane, got)
		}
		if got := masks.All(b, plane, 1); !slices.Equal(got, []api.Masked{{Neighbour: 2, Bits: 1}}) {
			t.Errorf("in the plane %d, All of the set 1 is %v", plane, got)
		}
	}
}

// P12.3: the own bits, and those with a next hop.
func TestLocalAndReach(t *testing.T) {
	for i, b := range tables() {
		for _, set := range sets() {
			var local, reach uint64
			for _, r := range b.Rows {
				if (r.ID-1)/b.Length != set || len(r.Next) == 0 {
					continue
				}
				bit := uint64(1) << ((r.ID - 1) % b.Length)
				reach |= bit
				if r.Next[0] == b.Router {
					local |= bit
				}
			}
			if got := masks.Local(b, set); got != local {
				t.Errorf("%d: Local of the set %d is %x, not %x", i, set, got, local)
			}
			if got := masks.Reach(b, set); got != reach {
				t.Errorf("%d: Reach of the set %d is %x, not %x", i, set, got, reach)
			}
		}
	}
}

// P12.4: rows of any length.
func TestPlanesKnown(t *testing.T) {
	for n, want := range [][]int{
		nil, {8}, {4, 4}, {3, 3, 2}, {2, 2, 2, 2}, {2, 2, 2, 1, 1}, {2, 2, 1, 1, 1, 1}, {2, 1, 1, 1, 1, 1, 1}, {1, 1, 1, 1, 1, 1, 1, 1},
		{1, 1, 1, 1, 1, 1, 1, 1, 0}, {1, 1, 1, 1, 1, 1, 1, 1, 0, 0},
	} {
		if got := masks.Planes(row(1, upTo(1, n)...)); !slices.Equal(got, want) {
			t.Errorf("Planes of %d next hops are %v, not %v", n, got, want)
		}
	}
	if got := masks.Planes(api.Row{ID: 9, Next: []int{}}); len(got) != 0 {
		t.Errorf("Planes of an empty list are %v", got)
	}
}

// P12.4, P12.5: all rows, also such as no valid table has.
func TestPlanes(t *testing.T) {
	for _, id := range append([]int{0, 1, 256}, far...) {
		for _, n := range append(upTo(0, 60), 99, 255, 256, 257, 1000, 100000) {
			for _, next := range [][]int{upTo(1, n), slices.Repeat([]int{id}, n), slices.Repeat([]int{9, 7, 9}, n)[:n]} {
				want := make([]int, n)
				for i := range n {
					for plane := range 8 {
						if plane%n == i {
							want[i]++
						}
					}
				}
				got := masks.Planes(row(id, next...))
				if !slices.Equal(got, want) {
					t.Errorf("Planes of %d next hops with the ID %d are %v", n, id, got)
				}
				checkShares(t, got)
			}
		}
	}
}

// checkShares checks that the numbers of planes add up, and are nearly equal.
func checkShares(t *testing.T, shares []int) {
	if len(shares) == 0 {
		return
	}
	sum := 0
	for _, n := range shares {
		sum += n
	}
	if sum != 8 || slices.Max(shares)-slices.Min(shares) > 1 {
		t.Errorf("the numbers of Planes are %v", shares)
	}
}

// P12.1, P12.4: Planes counts in how many planes each next hop is Next.
func TestPlanesOfNext(t *testing.T) {
	for i, b := range tables() {
		for _, r := range b.Rows {
			var want []int
			for _, next := range r.Next {
				count := 0
				for plane := range 8 {
					if masks.Next(b, r.ID, plane) == next {
						count++
					}
				}
				want = append(want, count)
			}
			if got := masks.Planes(r); !slices.Equal(got, want) {
				t.Errorf("%d: Planes of %v are %v, not %v", i, r, got, want)
			}
		}
	}
}

// wrongTables returns tables that are not valid, for all reasons, but have next hops in many sets.
func wrongTables() []api.Table {
	spoilers := []func(b *api.Table){
		func(b *api.Table) { b.Rows[7].Next = upTo(60, 25) },
		func(b *api.Table) { b.Rows = append(b.Rows, slices.Repeat([]api.Row{row(256, 3)}, 250)...) },
		func(b *api.Table) { b.Rows[1].ID = 1 },
		func(b *api.Table) { b.Rows[6], b.Rows[7] = b.Rows[7], b.Rows[6] },
		func(b *api.Table) { b.Rows[4].Next = []int{3, 3} },
		func(b *api.Table) { b.Rows[4].Next = []int{3, 2} },
		func(b *api.Table) { b.Rows[0].Next = []int{50, 50} },
		func(b *api.Table) { b.Rows[0].Next = []int{50, 51} },
		func(b *api.Table) { b.Rows[7].Next = []int{49, 50} },
	}
	for _, n := range append([]int{0, 100}, far...) {
		spoilers = append(spoilers, func(b *api.Table) { b.Router = n }, func(b *api.Table) { b.Rows[7].Next[23] = n }, func(b *api.Table) { b.Rows[0].Next[0] = n })
	}
	for _, n := range append([]int{8}, far...) {
		spoilers = append(spoilers, func(b *api.Table) { b.Subdomain = n })
	}
	for _, n := range append([]int{0, 1, 7, 9, 24, 63, 65, 128}, far...) {
		spoilers = append(spoilers, func(b *api.Table) { b.Length = n })
	}
	for _, n := range append([]int{0}, far...) {
		spoilers = append(spoilers, func(b *api.Table) { b.Rows[0].ID = n }, func(b *api.Table) { b.Rows[7].ID = n })
	}
	var l []api.Table
	for _, length := range lengths {
		for _, spoil := range spoilers {
			b := of(length, row(1, 50), row(2, 1), row(7, 2), row(8, 49, 51), row(9, 1, 2, 3), row(100, 50), row(255, 1, 99), row(256, upTo(60, 24)...))
			spoil(&b)
			l = append(l, b)
		}
	}
	return l
}

// P12.1 to P12.3: tables that are not valid have no next hops and no masks.
func TestWrongTables(t *testing.T) {
	for i, b := range wrongTables() {
		for plane := range 8 {
			for _, id := range []int{-1, 0, 1, 2, 7, 8, 9, 100, 255, 256, 257} {
				if got := masks.Next(b, id, plane); got != 0 {
					t.Errorf("%d: Next of %d in the plane %d is %d", i, id, plane, got)
				}
			}
			for _, set := range []int{-1, 0, 1, 2, 3, 6, 12, 15, 31} {
				for _, neighbour := range []int{-1, 0, 1, 2, 3, 49, 50, 51, 60, 99, b.Router} {
					if got := masks.Mask(b, plane, set, neighbour); got != 0 {
						t.Errorf("%d: Mask in the plane %d of the set %d for %d is %x", i, plane, set, neighbour, got)
					}
				}
				if got := masks.All(b, plane, set); len(got) != 0 {
					t.Errorf("%d: All in the plane %d of the set %d is %v", i, plane, set, got)
				}
			}
		}
		for set := range 32 {
			if local, reach := masks.Local(b, set), masks.Reach(b, set); local != 0 || reach != 0 {
				t.Errorf("%d: of the set %d, Local is %x and Reach %x", i, set, local, reach)
			}
		}
	}
}

// P12.5: masks have no bit in common, their union is Reach, and Local is the same in every plane.
func TestConsequences(t *testing.T) {
	for i, b := range tables() {
		for set := range 32 {
			local, reach := masks.Local(b, set), masks.Reach(b, set)
			for plane := range 8 {
				var union uint64
				sum := 0
				for _, m := range masks.All(b, plane, set) {
					union |= m.Bits
					sum += bits.OnesCount64(m.Bits)
				}
				if union != reach || sum != bits.OnesCount64(reach) {
					t.Errorf("%d: in the plane %d, the masks of the set %d have together %x, in all %d bits; Reach is %x", i, plane, set, union, sum, reach)
				}
				if got := masks.Mask(b, plane, set, b.Router); got != local {
					t.Errorf("%d: in the plane %d, the own mask of the set %d is %x; Local is %x", i, plane, set, got, local)
				}
			}
		}
	}
}

// answers returns what all functions answer for a table, as a text.
func answers(b api.Table) string {
	s := ""
	for set := range 32 {
		s += fmt.Sprintln(masks.Local(b, set), masks.Reach(b, set))
		for plane := range 8 {
			s += fmt.Sprintln(masks.All(b, plane, set), masks.Mask(b, plane, set, b.Router), masks.Next(b, 1+7*set, plane))
		}
	}
	for _, r := range b.Rows {
		s += fmt.Sprintln(masks.Planes(r))
	}
	return s
}

// R5, R6: all functions leave their arguments as they are, and answer the same again, in memory of their own.
func TestArgumentsStay(t *testing.T) {
	for i, b := range append(tables(), wrongTables()...) {
		kept := copied(b)
		first := answers(b)
		for set := range 32 {
			l := masks.All(b, 0, set)
			for k := range l {
				l[k] = api.Masked{Neighbour: -1, Bits: math.MaxUint64}
			}
		}
		for _, r := range b.Rows {
			l := masks.Planes(r)
			for k := range l {
				l[k] = -1
			}
		}
		if again := answers(b); again != first {
			t.Errorf("%d: the answers are first\n%s, then\n%s", i, first, again)
		}
		if !table.Same(b, kept) {
			t.Errorf("%d: the table has changed", i)
		}
	}
}
