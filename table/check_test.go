package table_test

import (
	"math"
	"slices"
	"testing"

	"bitcast/api"
	"bitcast/table"
)

// far has numbers that are out of every range, some of which seem to be in one if only their lowest bits are looked at.
var far = []int{math.MinInt, math.MinInt + 1, -1 << 32, -1<<32 + 8, -8, -1, 257, 264, 1<<32 + 1, 1<<32 + 8, 1<<62 + 8, math.MaxInt}

// lengths has the lengths of bit strings.
var lengths = []int{8, 16, 32, 64}

// row returns a row with these next hops.
func row(id int, next ...int) api.Row { return api.Row{ID: id, Next: next} }

// of returns a table of the router 50 with these rows.
func of(rows ...api.Row) api.Table {
	return api.Table{Router: 50, Subdomain: 3, Length: 16, Rows: rows}
}

// copied returns an equal table with memory of its own.
func copied(b api.Table) api.Table {
	c := b
	c.Rows = nil
	for _, r := range b.Rows {
		c.Rows = append(c.Rows, api.Row{ID: r.ID, Next: slices.Clone(r.Next)})
	}
	return c
}

// same reports whether tables are equal, by the definition.
func same(a, b api.Table) bool {
	if a.Router != b.Router || a.Subdomain != b.Subdomain || a.Length != b.Length || len(a.Rows) != len(b.Rows) {
		return false
	}
	for i, r := range a.Rows {
		if r.ID != b.Rows[i].ID || !slices.Equal(r.Next, b.Rows[i].Next) {
			return false
		}
	}
	return true
}

// upTo returns n numbers, the first one of which is low.
func upTo(low, n int) []int {
	var l []int
	for i := range n {
		l = append(l, low+i)
	}
	return l
}

// long returns a table of the router 50 with n rows, all in order.
func long(n int) api.Table {
	b := of()
	for id := 1; id <= n; id++ {
		b.Rows = append(b.Rows, row(id, upTo(1+id%70, id%5)...))
		if id%9 == 0 {
			b.Rows[id-1].Next = []int{50}
		}
		if r := &b.Rows[id-1]; len(r.Next) > 1 {
			r.Next = slices.DeleteFunc(r.Next, func(n int) bool { return n == 50 })
		}
	}
	return b
}

// eight returns a valid table with eight rows.
func eight() api.Table {
	return of(row(1, 50), row(2, 1), row(7), row(8, 49, 51), row(9, 1, 2, 3), row(100, 50), row(255, 1, 99), row(256, upTo(60, 24)...))
}

// valids returns valid tables of many kinds.
func valids() []api.Table {
	l := []api.Table{
		{Router: 1}, {Router: 99, Subdomain: 7}, {Router: 50, Rows: []api.Row{}}, {Router: 1, Length: 64},
		of(), of(row(1)), of(row(256, 50)), of(row(1, 1), row(256, 99)), of(row(5, upTo(1, 24)...)), of(row(5, upTo(76, 24)...)), of(row(6, upTo(26, 24)...)), of(row(6, upTo(51, 24)...)),
		eight(), long(255), long(256),
		{Router: 1, Length: 8, Rows: []api.Row{row(1, 1), row(2, 2, 3)}},
		{Router: 99, Subdomain: 7, Length: 64, Rows: []api.Row{row(1, 99), row(2, 97, 98), {ID: 3, Next: []int{}}}},
	}
	// A table may have its router alone in many rows.
	alone := of()
	for id := 1; id <= 256; id++ {
		alone.Rows = append(alone.Rows, row(id, 50))
	}
	return append(l, alone)
}

// defect is something that makes a table wrong, and needs a row for it, if rows are valid otherwise.
type defect struct {
	name  string
	spoil func(b *api.Table, at int)
}

// rangeDefects returns numbers that are out of range.
func rangeDefects() []defect {
	var l []defect
	for _, n := range append([]int{0, 100, 128}, far...) {
		l = append(l,
			defect{"Router", func(b *api.Table, _ int) { b.Router = n }},
			defect{"Next", func(b *api.Table, at int) { b.Rows[at].Next = []int{n} }},
			defect{"first of Next", func(b *api.Table, at int) { b.Rows[at].Next = []int{n, 98, 99} }},
			defect{"last of Next", func(b *api.Table, at int) { b.Rows[at].Next = []int{1, 2, n} }})
	}
	for _, n := range append([]int{8, 16}, far...) {
		l = append(l, defect{"Subdomain", func(b *api.Table, _ int) { b.Subdomain = n }})
	}
	for _, n := range append([]int{0, 1, 4, 7, 9, 24, 63, 65, 128}, far...) {
		l = append(l, defect{"Length", func(b *api.Table, _ int) { b.Length = n }})
	}
	for _, n := range append([]int{0, 512}, far...) {
		l = append(l, defect{"ID", func(b *api.Table, at int) { b.Rows[at].ID = n }})
	}
	return l
}

// limitDefects returns lists that are too long.
func limitDefects() []defect {
	return []defect{
		{"Next of 25", func(b *api.Table, at int) { b.Rows[at].Next = upTo(10, 25) }},
		{"Next of 25 to the end", func(b *api.Table, at int) { b.Rows[at].Next = upTo(75, 25) }},
		{"Next of 25 in disorder", func(b *api.Table, at int) { b.Rows[at].Next = slices.Repeat([]int{4}, 25) }},
		{"Next of 25 with the router", func(b *api.Table, at int) { b.Rows[at].Next = upTo(40, 25) }},
		{"Next of 99", func(b *api.Table, at int) { b.Rows[at].Next = upTo(1, 99) }},
		{"257 rows", func(b *api.Table, _ int) {
			for len(b.Rows) < 257 {
				b.Rows = append(b.Rows, row(256, 2))
			}
		}},
		{"10000 rows", func(b *api.Table, _ int) { b.Rows = append(b.Rows, slices.Repeat([]api.Row{row(3)}, 10000)...) }},
	}
}

// orderDefects returns lists that are not ascending; at must not be the first row.
func orderDefects() []defect {
	return []defect{
		{"equal IDs", func(b *api.Table, at int) { b.Rows[at].ID = b.Rows[at-1].ID }},
		{"a descending ID", func(b *api.Table, at int) { b.Rows[at].ID, b.Rows[at-1].ID = b.Rows[at-1].ID, b.Rows[at].ID }},
		{"equal hops", func(b *api.Table, at int) { b.Rows[at].Next = []int{7, 7} }},
		{"the router twice", func(b *api.Table, at int) { b.Rows[at].Next = []int{b.Router, b.Router} }},
		{"equal hops behind", func(b *api.Table, at int) { b.Rows[at].Next = []int{7, 8, 8} }},
		{"descending hops", func(b *api.Table, at int) { b.Rows[at].Next = []int{8, 7} }},
		{"a descending hop", func(b *api.Table, at int) { b.Rows[at].Next = []int{3, 9, 4} }},
		{"24 hops, the last in disorder", func(b *api.Table, at int) { b.Rows[at].Next = append(upTo(10, 23), 31) }},
	}
}

// conflictDefects returns next hops with the router and others.
func conflictDefects() []defect {
	return []defect{
		{"the router first", func(b *api.Table, at int) { b.Rows[at].Next = []int{50, 51} }},
		{"the router last", func(b *api.Table, at int) { b.Rows[at].Next = []int{49, 50} }},
		{"the router between", func(b *api.Table, at int) { b.Rows[at].Next = []int{1, 50, 99} }},
		{"the router among 24", func(b *api.Table, at int) { b.Rows[at].Next = upTo(30, 24) }},
	}
}

// spoiled returns eight with some defects, each in a row of its own; the rows are from the last one on if back is true, otherwise from the second one on.
func spoiled(back bool, defects ...defect) api.Table {
	b := eight()
	for i, d := range defects {
		at := 1 + 2*i
		if back {
			at = 7 - 2*i
		}
		d.spoil(&b, at)
	}
	return b
}

// P11.1: tables that are valid.
func TestCheckValid(t *testing.T) {
	for i, b := range valids() {
		if got := table.Check(b); got != api.OK {
			t.Errorf("%d: Check is %d", i, got)
		}
	}
	for n := 1; n <= 99; n++ {
		b := of(row(1, n), row(2))
		b.Router = n
		if got := table.Check(b); got != api.OK {
			t.Errorf("with the Router %d, Check is %d", n, got)
		}
	}
	for n := range 8 {
		b := eight()
		b.Subdomain = n
		if got := table.Check(b); got != api.OK {
			t.Errorf("with the Subdomain %d, Check is %d", n, got)
		}
	}
	for n := 1; n <= 256; n++ {
		if got := table.Check(of(row(n, 2))); got != api.OK {
			t.Errorf("with the ID %d, Check is %d", n, got)
		}
	}
}

// P11.1: every length is looked at; 0 is right only without rows.
func TestCheckLengths(t *testing.T) {
	for n := -70; n <= 300; n++ {
		b := of()
		b.Length = n
		want := api.ErrRange
		if n == 0 || slices.Contains(lengths, n) {
			want = api.OK
		}
		if got := table.Check(b); got != want {
			t.Errorf("with the Length %d and no rows, Check is %d", n, got)
		}
		b.Rows = []api.Row{row(1)}
		if n == 0 {
			want = api.ErrRange
		}
		if got := table.Check(b); got != want {
			t.Errorf("with the Length %d and a row, Check is %d", n, got)
		}
	}
}

// P11.1: each defect alone, in each row.
func TestCheckErrors(t *testing.T) {
	for _, c := range []struct {
		defects []defect
		want    api.Errno
	}{
		{rangeDefects(), api.ErrRange}, {limitDefects(), api.ErrLimit}, {orderDefects(), api.ErrOrder}, {conflictDefects(), api.ErrConflict},
	} {
		for _, d := range c.defects {
			for at := 1; at < 8; at++ {
				b := eight()
				d.spoil(&b, at)
				if got := table.Check(b); got != c.want {
					t.Errorf("%s in row %d: Check is %d, not %d", d.name, at, got, c.want)
				}
			}
		}
	}
	for at, r := range []api.Row{row(1, 1, 0), row(1, upTo(1, 25)...), row(1, 2, 1), row(1, 50, 51)} {
		want := []api.Errno{api.ErrRange, api.ErrLimit, api.ErrOrder, api.ErrConflict}[at]
		if got := table.Check(of(r)); got != want {
			t.Errorf("with the only row %v, Check is %d, not %d", r, got, want)
		}
	}
}

// P11.1: of several errors the first one, wherever they stand.
func TestCheckFirstError(t *testing.T) {
	for _, c := range conflictDefects() {
		for _, o := range orderDefects() {
			for _, l := range limitDefects() {
				for _, back := range []bool{false, true} {
					if got := table.Check(spoiled(back, c, o)); got != api.ErrOrder {
						t.Errorf("%s, %s: Check is %d", c.name, o.name, got)
					}
					for _, b := range []api.Table{spoiled(back, c, l), spoiled(back, o, l), spoiled(back, c, o, l)} {
						if got := table.Check(b); got != api.ErrLimit {
							t.Errorf("%s, %s, %s: Check is %d", c.name, o.name, l.name, got)
						}
					}
				}
			}
		}
	}
	for _, r := range rangeDefects() {
		for _, d := range slices.Concat(conflictDefects(), orderDefects(), limitDefects()) {
			for _, b := range []api.Table{spoiled(false, r, d), spoiled(true, r, d), spoiled(false, d, r), spoiled(true, d, r)} {
				if got := table.Check(b); got != api.ErrRange {
					t.Errorf("%s, %s: Check is %d", r.name, d.name, got)
				}
			}
		}
	}
}

// P11.1: the numbers of rows and of next hops.
func TestCheckLimits(t *testing.T) {
	for n := range 300 {
		b := of()
		for range n {
			b.Rows = append(b.Rows, row(1+len(b.Rows)%256, 50))
		}
		want := api.OK
		if n > 256 {
			want = api.ErrLimit
		}
		if got := table.Check(b); got != want {
			t.Errorf("with %d rows, Check is %d", n, got)
		}
	}
	for n := range 99 {
		b := of(row(1), row(2, upTo(1, n)...), row(3))
		b.Router = 99
		want := api.OK
		if n > 24 {
			want = api.ErrLimit
		}
		if got := table.Check(b); got != want {
			t.Errorf("with %d next hops, Check is %d", n, got)
		}
	}
}

// changes returns tables each of which differs from a table with eight rows.
func changes() []api.Table {
	var l []api.Table
	for _, change := range []func(b *api.Table){
		func(b *api.Table) { b.Router = 48 }, func(b *api.Table) { b.Subdomain = 0 }, func(b *api.Table) { b.Length = 8 },
		func(b *api.Table) { b.Rows = nil }, func(b *api.Table) { b.Rows = b.Rows[:7] }, func(b *api.Table) { b.Rows = b.Rows[1:] },
		func(b *api.Table) { b.Rows = append(b.Rows, row(256, 1)) },
		func(b *api.Table) { b.Rows[0].ID = 0 }, func(b *api.Table) { b.Rows[2].ID = 6 }, func(b *api.Table) { b.Rows[7].ID = 254 },
		func(b *api.Table) { b.Rows[0].Next = []int{49} }, func(b *api.Table) { b.Rows[0].Next = nil },
		func(b *api.Table) { b.Rows[2].Next = []int{0} }, func(b *api.Table) { b.Rows[2].Next = []int{50} },
		func(b *api.Table) { b.Rows[3].Next = []int{49} }, func(b *api.Table) { b.Rows[3].Next = []int{51} },
		func(b *api.Table) { b.Rows[3].Next = []int{51, 49} }, func(b *api.Table) { b.Rows[3].Next = []int{49, 51, 52} },
		func(b *api.Table) { b.Rows[7].Next = upTo(60, 23) }, func(b *api.Table) { b.Rows[7].Next[23]++ },
		func(b *api.Table) { b.Rows[0], b.Rows[1] = b.Rows[1], b.Rows[0] },
		func(b *api.Table) { b.Rows[6].Next, b.Rows[7].Next = b.Rows[7].Next, b.Rows[6].Next },
	} {
		b := eight()
		change(&b)
		l = append(l, b)
	}
	return l
}

// P11.1: Same looks at all fields, of tables that need not be valid.
func TestSame(t *testing.T) {
	if !table.Same(eight(), eight()) || !table.Same(api.Table{}, api.Table{}) {
		t.Error("equal tables are not the same")
	}
	all := append(changes(), eight())
	for _, r := range rangeDefects() {
		if b := spoiled(false, r); !slices.ContainsFunc(all, func(c api.Table) bool { return same(b, c) }) {
			all = append(all, b)
		}
	}
	for i, a := range all {
		for j, b := range all {
			if got := table.Same(a, copied(b)); got != (i == j) {
				t.Errorf("Same of %v and %v is %t", a, b, got)
			}
		}
	}
	// No list and an empty one are equal.
	a, b := of(row(1), row(2, 3)), of(api.Row{ID: 1, Next: []int{}}, row(2, 3))
	if !table.Same(a, b) || !table.Same(b, a) || !table.Same(of(), api.Table{Router: 50, Subdomain: 3, Length: 16, Rows: []api.Row{}}) {
		t.Error("tables with empty lists are not the same as those without")
	}
}

// several returns n valid tables that are valid together.
func several(n int) []api.Table {
	var l []api.Table
	for i := range n {
		b := of(row(1, 1+4*i), row(2+i, 98, 99), row(100))
		b.Router = 1 + 4*i
		l = append(l, b)
	}
	return l
}

// P11.1: tables that are valid together.
func TestCheckAllValid(t *testing.T) {
	if got := table.CheckAll([]api.Table{}); got != api.OK {
		t.Errorf("CheckAll of an empty list is %d", got)
	}
	for n := range 25 {
		if got := table.CheckAll(several(n)); got != api.OK {
			t.Errorf("CheckAll of %d tables is %d", n, got)
		}
	}
	for i, b := range valids() {
		if got := table.CheckAll([]api.Table{b}); got != api.OK {
			t.Errorf("%d: CheckAll of a single table is %d", i, got)
		}
	}
	// Tables of one domain may have different rows, and none of them need have any.
	for i, l := range [][]api.Table{
		{{Router: 1}, {Router: 99}},
		{{Router: 1, Subdomain: 7, Length: 8}, {Router: 2, Subdomain: 7, Length: 8, Rows: []api.Row{row(1)}}, {Router: 3, Subdomain: 7, Length: 8, Rows: []api.Row{row(256, 4)}}},
	} {
		if got := table.CheckAll(l); got != api.OK {
			t.Errorf("%d: CheckAll is %d", i, got)
		}
	}
}

// P11.1: each error of several tables, at each place.
func TestCheckAllErrors(t *testing.T) {
	for n := 25; n <= 99; n++ {
		l := slices.Repeat(several(1), n)
		for i := range l {
			l[i].Router = i + 1
			l[i].Rows = nil
		}
		if got := table.CheckAll(l); got != api.ErrLimit {
			t.Errorf("CheckAll of %d tables is %d", n, got)
		}
	}
	for at := range 6 {
		for _, d := range slices.Concat(rangeDefects(), limitDefects(), orderDefects(), conflictDefects()) {
			l := several(6)
			l[at] = spoiled(false, d)
			if got := table.CheckAll(l); got != api.ErrInvalid {
				t.Errorf("with %s in the table %d, CheckAll is %d", d.name, at, got)
			}
		}
		for _, change := range []func(b *api.Table){
			func(b *api.Table) { b.Subdomain = 0 }, func(b *api.Table) { b.Subdomain = 7 }, func(b *api.Table) { b.Length = 8 },
			func(b *api.Table) { b.Length = 64 }, func(b *api.Table) { b.Length, b.Rows = 0, nil },
		} {
			l := several(6)
			change(&l[at])
			if got := table.CheckAll(l); got != api.ErrConflict {
				t.Errorf("with another table %d, CheckAll is %d", at, got)
			}
		}
		for other := range at {
			l := several(6)
			l[at], l[other] = l[other], l[at]
			if got := table.CheckAll(l); got != api.ErrOrder {
				t.Errorf("with %d and %d exchanged, CheckAll is %d", at, other, got)
			}
			l = several(6)
			l[at].Rows = nil
			l[at].Router = l[other].Router
			if got := table.CheckAll(l); got != api.ErrOrder {
				t.Errorf("with the router of %d in %d, CheckAll is %d", other, at, got)
			}
		}
	}
}

// P11.1: of several errors of several tables the first one, wherever they stand.
func TestCheckAllFirstError(t *testing.T) {
	wrong := func(l []api.Table, at int) { l[at].Rows = []api.Row{row(1, 2, 1)} }
	other := func(l []api.Table, at int) { l[at].Subdomain = 4 }
	twice := func(l []api.Table, at int) { l[at] = l[at-1] }
	for _, at := range [][3]int{{1, 3, 5}, {1, 5, 3}, {3, 1, 5}, {3, 5, 1}, {5, 1, 3}, {5, 3, 1}} {
		l := several(6)
		other(l, at[0])
		twice(l, at[1])
		if got := table.CheckAll(l); got != api.ErrOrder {
			t.Errorf("%v: with a conflict and in disorder, CheckAll is %d", at, got)
		}
		wrong(l, at[2])
		if got := table.CheckAll(l); got != api.ErrInvalid {
			t.Errorf("%v: with a table that is not valid, too, CheckAll is %d", at, got)
		}
		if got := table.CheckAll(append(several(19), l...)); got != api.ErrLimit {
			t.Errorf("%v: and with 25 tables, CheckAll is %d", at, got)
		}
		l = several(6)
		other(l, at[0])
		wrong(l, at[1])
		if got := table.CheckAll(l); got != api.ErrInvalid {
			t.Errorf("%v: with a conflict and a table that is not valid, CheckAll is %d", at, got)
		}
	}
	if got := table.CheckAll(make([]api.Table, 25)); got != api.ErrLimit {
		t.Errorf("CheckAll of 25 tables that are not valid is %d", got)
	}
	if got := table.CheckAll(make([]api.Table, 24)); got != api.ErrInvalid {
		t.Errorf("CheckAll of 24 tables that are not valid is %d", got)
	}
}

// P11.4: the first table of a router.
func TestFind(t *testing.T) {
	l := several(24)
	for i, b := range l {
		if got, ok := table.Find(l, b.Router); !same(got, b) || !ok {
			t.Errorf("%d: Find is %v, %t", i, got, ok)
		}
		for _, n := range []int{b.Router - 1, b.Router + 1} {
			if got, ok := table.Find(l, n); !same(got, api.Table{}) || ok {
				t.Errorf("%d: Find of %d is %v, %t", i, n, got, ok)
			}
		}
	}
	for _, n := range append([]int{0, 100}, far...) {
		for _, list := range [][]api.Table{l, nil, {}} {
			if got, ok := table.Find(list, n); !same(got, api.Table{}) || ok {
				t.Errorf("Find of %d is %v, %t", n, got, ok)
			}
		}
	}
	// The tables need not be valid: of several ones of a router, the first counts.
	first, second := of(row(7, 3, 2), row(1, 50, 50)), of(row(8, 3))
	wild := []api.Table{{Router: 99, Length: -4}, {Router: -8}, first, {Router: 3}, second, {Router: 50}}
	for i, want := range []api.Table{wild[0], wild[1], first, wild[3]} {
		if got, ok := table.Find(wild, want.Router); !same(got, want) || !ok {
			t.Errorf("%d: Find is %v, %t, not %v", i, got, ok, want)
		}
	}
}

// P11.4: the first row with an identifier.
func TestRow(t *testing.T) {
	for i, b := range append(valids(), changes()...) {
		for id := -1; id <= 258; id++ {
			want, found := api.Row{}, false
			for _, r := range slices.Backward(b.Rows) {
				if r.ID == id {
					want, found = r, true
				}
			}
			if got, ok := table.Row(b, id); got.ID != want.ID || !slices.Equal(got.Next, want.Next) || ok != found {
				t.Errorf("%d: Row of %d is %v, %t, not %v, %t", i, id, got, ok, want, found)
			}
		}
		for _, id := range far {
			if got, ok := table.Row(b, id); got.ID != 0 || len(got.Next) != 0 || ok {
				t.Errorf("%d: Row of %d is %v, %t", i, id, got, ok)
			}
		}
	}
	// The table need not be valid: of several rows with an ID, the first counts.
	b := api.Table{Rows: []api.Row{row(300, 4), row(5, 9, 8), row(-1), row(5, 7), row(2, 1)}}
	for i, want := range []api.Row{row(300, 4), row(5, 9, 8), row(-1), row(2, 1)} {
		if got, ok := table.Row(b, want.ID); got.ID != want.ID || !slices.Equal(got.Next, want.Next) || !ok {
			t.Errorf("%d: Row is %v, %t, not %v", i, got, ok, want)
		}
	}
}

// R5: Check, CheckAll, Same, Find and Row leave their arguments as they are, and what they return has memory of its own.
func TestTablesStay(t *testing.T) {
	for i, b := range slices.Concat(valids(), changes(), []api.Table{spoiled(true, limitDefects()[0]), spoiled(false, orderDefects()[1])}) {
		l := []api.Table{copied(b), copied(b)}
		l[1].Router++
		table.Check(l[0])
		table.CheckAll(l)
		table.Same(l[0], l[1])
		found, _ := table.Find(l, b.Router)
		spoilRows(found.Rows)
		for _, r := range b.Rows {
			got, _ := table.Row(l[0], r.ID)
			spoilRows([]api.Row{got})
		}
		if l[1].Router--; !same(l[0], b) || !same(l[1], b) {
			t.Errorf("%d: the tables have changed", i)
		}
	}
}

// spoilRows writes into all memory of some rows.
func spoilRows(l []api.Row) {
	for i := range l {
		for k := range l[i].Next {
			l[i].Next[k] = -1
		}
		for range cap(l[i].Next) - len(l[i].Next) {
			l[i].Next = append(l[i].Next, -1)
		}
		l[i] = api.Row{ID: -1}
	}
	for range cap(l) - len(l) {
		l = append(l, api.Row{ID: -1})
	}
}
