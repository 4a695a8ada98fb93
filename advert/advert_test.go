package advert_test

import (
	"bytes"
	"math"
	"slices"
	"strconv"
	"strings"
	"testing"

	"bitcast/advert"
	"bitcast/api"
)

// far has numbers that are out of each range, some of which seem to be in one if only their lowest bits are looked at.
var far = []int{math.MinInt, math.MinInt + 1, -1 << 32, -1000, -1, 1 << 20, 1<<20 + 1, 1 << 32, 1<<32 + 1, 1<<32 + 8, math.MaxInt}

var lengths = []int{8, 16, 32, 64}

// random returns a fixed sequence of numbers below n, so that each run of the tests is the same.
func random(seed uint64) func(n int) int {
	return func(n int) int {
		seed = seed*6364136223846793005 + 1442695040888963407
		return int(seed >> 33 % uint64(n))
	}
}

// chosen returns n numbers from least to greatest, ascending, without one of them.
func chosen(next func(int) int, n, least, greatest, without int) []int {
	var l []int
	for len(l) < n {
		if x := least + next(greatest-least+1); x != without && !slices.Contains(l, x) {
			l = append(l, x)
		}
	}
	slices.Sort(l)
	return l
}

// randomAdvert returns a valid advert with so many links and claims.
func randomAdvert(next func(int) int, links, claims int) api.Advert {
	a := api.Advert{Router: 1 + next(99), Seq: 1 + next(1000000), Capable: next(2) == 0}
	for _, n := range chosen(next, links, 1, 99, a.Router) {
		a.Links = append(a.Links, api.Reach{Neighbour: n, Cost: 1 + next(1000), Capacity: next(1001)})
	}
	for _, s := range chosen(next, claims, 0, 7, -1) {
		a.Claims = append(a.Claims, api.Claim{Subdomain: s, ID: 1 + next(256), Length: lengths[next(4)]})
	}
	return a
}

// least returns the advert of the chapter's example.
func least() api.Advert { return api.Advert{Router: 1, Seq: 1} }

// greatest returns the valid advert with the most links and claims and the greatest values.
func greatest() api.Advert {
	a := api.Advert{Router: 99, Seq: 1000000, Capable: true}
	for n := 76; n <= 98; n++ {
		a.Links = append(a.Links, api.Reach{Neighbour: n, Cost: 1000, Capacity: 1000})
	}
	for s := range 8 {
		a.Claims = append(a.Claims, api.Claim{Subdomain: s, ID: 256, Length: 64})
	}
	return a
}

// single returns a valid advert with one link and one claim, in the middle of all ranges.
func single() api.Advert {
	return api.Advert{
		Router: 40, Seq: 500, Capable: true,
		Links:  []api.Reach{{Neighbour: 50, Cost: 300, Capacity: 400}},
		Claims: []api.Claim{{Subdomain: 3, ID: 100, Length: 32}},
	}
}

// valids returns valid adverts, with all numbers of links and claims.
func valids() []api.Advert {
	next := random(1)
	l := []api.Advert{
		least(), greatest(), single(),
		{Router: 1, Seq: 1, Links: []api.Reach{}, Claims: []api.Claim{}},
		{Router: 99, Seq: 1, Links: []api.Reach{{Neighbour: 1, Cost: 1}}, Claims: []api.Claim{{ID: 1, Length: 8}}},
		{Router: 50, Seq: 1, Links: []api.Reach{{Neighbour: 49, Cost: 1}, {Neighbour: 51, Cost: 1}}},
	}
	for links := range 24 {
		for claims := range 9 {
			l = append(l, randomAdvert(next, links, claims))
		}
	}
	return l
}

// copied returns an equal advert in memory of its own.
func copied(a api.Advert) api.Advert {
	a.Links = slices.Clone(a.Links)
	a.Claims = slices.Clone(a.Claims)
	return a
}

// equal reports whether two adverts have the same fields.
func equal(a, b api.Advert) bool {
	return a.Router == b.Router && a.Seq == b.Seq && a.Capable == b.Capable && slices.Equal(a.Links, b.Links) && slices.Equal(a.Claims, b.Claims)
}

// zero reports whether an advert is the zero value.
func zero(a api.Advert) bool { return equal(a, api.Advert{}) }

// limited is a number of an advert with its limits.
type limited struct {
	name            string
	place           *int
	least, greatest int
}

// places returns the numbers of an advert with a link and a claim; Length, which has no range, is left out.
func places(a *api.Advert) []limited {
	l, c := &a.Links[0], &a.Claims[0]
	return []limited{
		{"Router", &a.Router, 1, 99}, {"Seq", &a.Seq, 1, 1000000},
		{"Neighbour", &l.Neighbour, 1, 99}, {"Cost", &l.Cost, 1, 1000}, {"Capacity", &l.Capacity, 0, 1000},
		{"Subdomain", &c.Subdomain, 0, 7}, {"ID", &c.ID, 1, 256},
	}
}

// defect is a way to make an advert not valid.
type defect struct {
	name string
	make func(a *api.Advert)
}

// defects returns ways to make an advert with at least three links and claims not valid.
func defects() []defect {
	return []defect{
		{"Router 0", func(a *api.Advert) { a.Router = 0 }},
		{"Router 100", func(a *api.Advert) { a.Router = 100 }},
		{"Seq 0", func(a *api.Advert) { a.Seq = 0 }},
		{"Seq 1000001", func(a *api.Advert) { a.Seq = 1000001 }},
		{"Neighbour 0", func(a *api.Advert) { a.Links[0].Neighbour = 0 }},
		{"Neighbour 100", func(a *api.Advert) { a.Links[len(a.Links)-1].Neighbour = 100 }},
		{"own Router", func(a *api.Advert) { a.Router = a.Links[1].Neighbour }},
		{"Cost 0", func(a *api.Advert) { a.Links[0].Cost = 0 }},
		{"Cost 1001", func(a *api.Advert) { a.Links[len(a.Links)-1].Cost = 1001 }},
		{"Capacity 1001", func(a *api.Advert) { a.Links[1].Capacity = 1001 }},
		{"two equal Neighbours", func(a *api.Advert) { a.Links[1].Neighbour = a.Links[0].Neighbour }},
		{"order of Links", func(a *api.Advert) { a.Links[0], a.Links[1] = a.Links[1], a.Links[0] }},
		{"order of last Links", func(a *api.Advert) {
			n := len(a.Links)
			a.Links[n-1], a.Links[n-2] = a.Links[n-2], a.Links[n-1]
		}},
		{"ID 0", func(a *api.Advert) { a.Claims[0].ID = 0 }},
		{"ID 257", func(a *api.Advert) { a.Claims[len(a.Claims)-1].ID = 257 }},
		{"two equal Subdomains", func(a *api.Advert) { a.Claims[1].Subdomain = a.Claims[0].Subdomain }},
		{"order of Claims", func(a *api.Advert) { a.Claims[0], a.Claims[1] = a.Claims[1], a.Claims[0] }},
		{"order of last Claims", func(a *api.Advert) {
			n := len(a.Claims)
			a.Claims[n-1], a.Claims[n-2] = a.Claims[n-2], a.Claims[n-1]
		}},
	}
}

// manyLinks returns an advert with n links, valid but for their number.
func manyLinks(n int) api.Advert {
	a := least()
	for i := range n {
		a.Links = append(a.Links, api.Reach{Neighbour: 2 + i, Cost: 1})
	}
	return a
}

// manyClaims returns an advert with n claims whose subdomains are those that there are, as often as n needs.
func manyClaims(n int) api.Advert {
	a := least()
	for i := range n {
		a.Claims = append(a.Claims, api.Claim{Subdomain: i * 8 / n, ID: 1, Length: 8})
	}
	return a
}

// invalids returns adverts that are not valid, for all reasons.
func invalids() []api.Advert {
	l := []api.Advert{{}, {Router: 1}, {Seq: 1}, {Router: -1, Seq: -1}, manyLinks(24), manyLinks(31), manyLinks(97), manyLinks(100000), manyClaims(9), manyClaims(15), manyClaims(100000)}
	a := least()
	a.Links = make([]api.Reach, 1)
	l = append(l, a)
	a = least()
	a.Claims = make([]api.Claim, 1)
	l = append(l, a)
	for i := range places(ptr(single())) {
		for _, x := range far {
			a := single()
			*places(&a)[i].place = x
			l = append(l, a)
		}
	}
	for _, n := range []int{0, 1, 7, 9, 15, 17, 24, 63, 65, 128, -8, 256 + 8, 1<<32 + 8, math.MinInt, math.MaxInt} {
		a := single()
		a.Claims[0].Length = n
		l = append(l, a)
	}
	next := random(2)
	for _, d := range defects() {
		for range 3 {
			a := randomAdvert(next, 3+next(20), 3+next(5))
			d.make(&a)
			l = append(l, a)
		}
	}
	return l
}

func ptr(a api.Advert) *api.Advert { return &a }

// digits returns a number with n bits, the most significant one first.
func digits(value, n int) string {
	s := strconv.FormatUint(uint64(value), 2)
	return strings.Repeat("0", max(n-len(s), 0)) + s[max(len(s)-n, 0):]
}

// number returns the number with these bits.
func number(text string) int {
	x, _ := strconv.ParseUint(text, 2, 64)
	return int(x)
}

// checkOf returns the check number of a text of bits, by its definition.
func checkOf(text string) int {
	register := 65535
	for _, c := range text {
		left := register / 32768
		register = register * 2 % 65536
		if left != int(c-'0') {
			register ^= 4129
		}
	}
	return register
}

// filled returns a text of bits with as few zeros as make it whole bytes.
func filled(text string) string { return text + strings.Repeat("0", (8-len(text)%8)%8) }

// bytesOf returns the bytes of a text of whole bytes.
func bytesOf(text string) []byte {
	var l []byte
	for i := 0; i < len(text); i += 8 {
		l = append(l, byte(number(text[i:i+8])))
	}
	return l
}

// textOf returns the bits of bytes.
func textOf(l []byte) string {
	var b strings.Builder
	for _, x := range l {
		b.WriteString(digits(int(x), 8))
	}
	return b.String()
}

// fieldsOf returns the bits of an encoding before the check number, for any values that fit their fields.
func fieldsOf(a api.Advert) string {
	text := digits(a.Router, 7) + digits(a.Seq, 20)
	if a.Capable {
		text += "1"
	} else {
		text += "0"
	}
	text += digits(len(a.Links), 5)
	for _, l := range a.Links {
		text += digits(l.Neighbour, 7) + digits(l.Cost, 10) + digits(l.Capacity, 10)
	}
	text += digits(len(a.Claims), 4)
	for _, c := range a.Claims {
		text += digits(c.Subdomain, 3) + digits(c.ID, 9) + digits(slices.Index(lengths, c.Length), 2)
	}
	return text
}

// checked returns the bytes for bits of an encoding before the check number.
func checked(text string) []byte { return bytesOf(filled(text + digits(checkOf(text), 16))) }

// encoded returns the encoding of an advert, by its definition; it need only fit its fields.
func encoded(a api.Advert) []byte { return checked(fieldsOf(a)) }

// decoded returns the advert with an encoding, by the definition and the order of the errors.
func decoded(b []byte) (api.Advert, api.Errno) {
	text := textOf(b[:min(len(b), 200)])
	rest := text
	short := false
	take := func(n int) int {
		short = short || len(rest) < n
		if short {
			return 0
		}
		x := number(rest[:n])
		rest = rest[n:]
		return x
	}
	var a api.Advert
	a.Router = take(7)
	a.Seq = take(20)
	a.Capable = take(1) == 1
	for range take(5) {
		var l api.Reach
		l.Neighbour = take(7)
		l.Cost = take(10)
		l.Capacity = take(10)
		a.Links = append(a.Links, l)
	}
	for range take(4) {
		var c api.Claim
		c.Subdomain = take(3)
		c.ID = take(9)
		c.Length = lengths[take(2)]
		a.Claims = append(a.Claims, c)
	}
	covered := text[:len(text)-len(rest)]
	check := take(16)
	padding := take(len(rest) % 8)
	switch {
	case short:
		return api.Advert{}, api.ErrShort
	case check != checkOf(covered):
		return api.Advert{}, api.ErrCheck
	case padding != 0:
		return api.Advert{}, api.ErrPadding
	case rest != "":
		return api.Advert{}, api.ErrLong
	case !proper(a):
		return api.Advert{}, api.ErrInvalid
	}
	return a, api.OK
}

// proper reports whether an advert is valid, by the definition.
func proper(a api.Advert) bool {
	in := func(x, least, greatest int) bool { return x >= least && x <= greatest }
	good := in(a.Router, 1, 99) && in(a.Seq, 1, 1000000) && len(a.Links) <= 23 && len(a.Claims) <= 8
	for i, l := range a.Links {
		good = good && in(l.Neighbour, 1, 99) && l.Neighbour != a.Router && in(l.Cost, 1, 1000) && in(l.Capacity, 0, 1000)
		good = good && (i == 0 || a.Links[i-1].Neighbour < l.Neighbour)
	}
	for i, c := range a.Claims {
		good = good && in(c.Subdomain, 0, 7) && in(c.ID, 1, 256) && slices.Contains(lengths, c.Length)
		good = good && (i == 0 || a.Claims[i-1].Subdomain < c.Subdomain)
	}
	return good
}

// refuse expects an error of Decode, and no advert.
func refuse(t *testing.T, what string, b []byte, want api.Errno) {
	t.Helper()
	if a, e := advert.Decode(b); !zero(a) || e != want {
		t.Errorf("Decode of %s is %v, %d; it should be the error %d", what, a, e, want)
	}
}

// compareDecode expects what the definition says of bytes.
func compareDecode(t *testing.T, b []byte) {
	t.Helper()
	want, wantError := decoded(b)
	if got, e := advert.Decode(b); !equal(got, want) || e != wantError {
		t.Fatalf("Decode of %v is %v, %d; it should be %v, %d", b[:min(len(b), 200)], got, e, want, wantError)
	}
}

// P7.1: Valid, for each number up to its ends.
func TestValid(t *testing.T) {
	for _, a := range valids() {
		if !advert.Valid(a) {
			t.Errorf("the advert %v should be valid", a)
		}
	}
	for _, a := range invalids() {
		if advert.Valid(a) {
			t.Errorf("the advert %v should not be valid", a)
		}
	}
	for i := range places(ptr(single())) {
		a := single()
		c := places(&a)[i]
		for x := c.least - 3; x <= c.greatest+3; x++ {
			*c.place = x
			want := x >= c.least && x <= c.greatest && a.Router != a.Links[0].Neighbour
			if got := advert.Valid(a); got != want {
				t.Fatalf("Valid with %s %d is %t", c.name, x, got)
			}
		}
	}
	for n := -70; n <= 300; n++ {
		a := single()
		a.Claims[0].Length = n
		if got := advert.Valid(a); got != slices.Contains(lengths, n) {
			t.Errorf("Valid with the Length %d is %t", n, got)
		}
	}
}

// P7.1: each defect, in small and great adverts, makes an advert not valid; each element is looked at.
func TestValidDefects(t *testing.T) {
	next := random(3)
	for _, d := range defects() {
		for range 50 {
			a := randomAdvert(next, 3+next(20), 3+next(5))
			if !advert.Valid(a) {
				t.Fatalf("the advert %v should be valid", a)
			}
			d.make(&a)
			if advert.Valid(a) {
				t.Errorf("%s: the advert %v should not be valid", d.name, a)
			}
		}
	}
	for i := range 23 {
		for _, l := range []api.Reach{{}, {Neighbour: 99, Cost: 1}, {Neighbour: 76 + i}, {Neighbour: 76 + i, Cost: 1001}, {Neighbour: 76 + i, Cost: 1, Capacity: 1001}, {Neighbour: 76 + i, Cost: 1, Capacity: -1}} {
			a := greatest()
			a.Links[i] = l
			if advert.Valid(a) {
				t.Errorf("the link %v at %d should not be valid", l, i)
			}
		}
	}
	for i := range 8 {
		for _, c := range []api.Claim{{}, {Subdomain: i, Length: 8}, {Subdomain: i, ID: 257, Length: 8}, {Subdomain: i, ID: 1}, {Subdomain: i, ID: 1, Length: 12}, {Subdomain: 8, ID: 1, Length: 8}, {Subdomain: -1, ID: 1, Length: 8}} {
			a := greatest()
			a.Claims[i] = c
			if advert.Valid(a) {
				t.Errorf("the claim %v at %d should not be valid", c, i)
			}
		}
	}
}

// P7.1: how many links and claims there may be.
func TestValidNumbers(t *testing.T) {
	for n := range 99 {
		if got := advert.Valid(manyLinks(n)); got != (n <= 23) {
			t.Errorf("Valid with %d links is %t", n, got)
		}
	}
	for n := range 30 {
		if got := advert.Valid(manyClaims(n)); got != (n <= 8) {
			t.Errorf("Valid with %d claims is %t", n, got)
		}
	}
}

// changes returns adverts that differ from a, which has two links and claims, in one thing each.
func changes(a api.Advert) []api.Advert {
	var l []api.Advert
	add := func(change func(b *api.Advert)) {
		b := copied(a)
		change(&b)
		l = append(l, b)
	}
	add(func(b *api.Advert) { b.Router++ })
	add(func(b *api.Advert) { b.Seq++ })
	add(func(b *api.Advert) { b.Capable = !b.Capable })
	add(func(b *api.Advert) { b.Links = nil })
	add(func(b *api.Advert) { b.Links = b.Links[:1] })
	add(func(b *api.Advert) { b.Links = b.Links[1:] })
	add(func(b *api.Advert) { b.Links = append(b.Links, b.Links[1]) })
	add(func(b *api.Advert) { b.Links = append(b.Links, api.Reach{}) })
	add(func(b *api.Advert) { b.Links[0], b.Links[1] = b.Links[1], b.Links[0] })
	add(func(b *api.Advert) { b.Claims = nil })
	add(func(b *api.Advert) { b.Claims = b.Claims[:1] })
	add(func(b *api.Advert) { b.Claims = b.Claims[1:] })
	add(func(b *api.Advert) { b.Claims = append(b.Claims, b.Claims[1]) })
	add(func(b *api.Advert) { b.Claims = append(b.Claims, api.Claim{}) })
	add(func(b *api.Advert) { b.Claims[0], b.Claims[1] = b.Claims[1], b.Claims[0] })
	for i := range 2 {
		for _, d := range []int{-1, 1, math.MinInt} {
			add(func(b *api.Advert) { b.Links[i].Neighbour += d })
			add(func(b *api.Advert) { b.Links[i].Cost += d })
			add(func(b *api.Advert) { b.Links[i].Capacity += d })
			add(func(b *api.Advert) { b.Claims[i].Subdomain += d })
			add(func(b *api.Advert) { b.Claims[i].ID += d })
			add(func(b *api.Advert) { b.Claims[i].Length += d })
		}
	}
	return l
}

// P7.1: Same, also for adverts that are not valid.
func TestSame(t *testing.T) {
	pair := api.Advert{
		Router: 40, Seq: 500,
		Links:  []api.Reach{{Neighbour: 50, Cost: 300, Capacity: 400}, {Neighbour: 60, Cost: 31, Capacity: 41}},
		Claims: []api.Claim{{Subdomain: 3, ID: 100, Length: 32}, {Subdomain: 5, ID: 120, Length: 16}},
	}
	wild := api.Advert{
		Router: -1, Seq: math.MaxInt - 1, Capable: true,
		Links:  []api.Reach{{Neighbour: 1 << 40, Cost: -5}, {Neighbour: 1, Cost: math.MinInt + 1, Capacity: 1 << 50}},
		Claims: []api.Claim{{Subdomain: -1, ID: 1 << 33, Length: 5}, {Subdomain: 5, ID: -5, Length: 1 << 20}},
	}
	for _, a := range []api.Advert{pair, wild} {
		all := append(changes(a), a)
		for i, b := range all {
			for j, c := range all {
				if got := advert.Same(b, copied(c)); got != equal(b, c) || i == j && !got {
					t.Errorf("Same of %v and %v is %t", b, c, got)
				}
			}
		}
	}
	for _, a := range slices.Concat(valids(), invalids()) {
		if !advert.Same(a, copied(a)) {
			t.Errorf("%v is not the same as itself", a)
		}
	}
}

// P7.1, R4: an empty list is the same as none.
func TestSameEmpty(t *testing.T) {
	a, b := least(), least()
	b.Links, b.Claims = []api.Reach{}, []api.Claim{}
	if !advert.Same(a, b) || !advert.Same(b, a) || !advert.Same(api.Advert{}, api.Advert{}) {
		t.Error("an empty list is not the same as none")
	}
}

// P7.2: encodings written by hand, the first one that of the chapter's example.
func TestEncodeKnown(t *testing.T) {
	for i, c := range []struct {
		a     api.Advert
		text  string
		bytes int
	}{
		{least(), "0000001 00000000000000000001 0 00000 0000", 7},
		{
			api.Advert{Router: 99, Seq: 1000000, Capable: true, Links: []api.Reach{{Neighbour: 2, Cost: 1000, Capacity: 5}}},
			"1100011 11110100001001000000 1 00001 0000010 1111101000 0000000101 0000", 10,
		},
		{
			api.Advert{Router: 5, Seq: 3, Claims: []api.Claim{{Subdomain: 0, ID: 1, Length: 8}, {Subdomain: 2, ID: 256, Length: 16}, {Subdomain: 5, ID: 129, Length: 32}, {Subdomain: 7, ID: 2, Length: 64}}},
			"0000101 00000000000000000011 0 00000 0100 000 000000001 00 010 100000000 01 101 010000001 10 111 000000010 11", 14,
		},
		{
			api.Advert{
				Router: 64, Seq: 524289, Capable: true,
				Links:  []api.Reach{{Neighbour: 1, Cost: 1, Capacity: 1000}, {Neighbour: 65, Cost: 513, Capacity: 0}},
				Claims: []api.Claim{{Subdomain: 4, ID: 255, Length: 64}},
			},
			"1000000 10000000000000000001 1 00010 0000001 0000000001 1111101000 1000001 1000000001 0000000000 0001 100 011111111 11", 16,
		},
	} {
		b, e := advert.Encode(c.a)
		if want := checked(strings.ReplaceAll(c.text, " ", "")); !bytes.Equal(b, want) || len(b) != c.bytes || e != api.OK {
			t.Errorf("%d: Encode is %v, %d; it should be %v", i, b, e, want)
		}
	}
	// The check number of the example was computed outside of this program.
	if b, _ := advert.Encode(least()); !bytes.Equal(b, []byte{2, 0, 0, 32, 1, 67, 72}) {
		t.Errorf("Encode of the example is %v", b)
	}
}

// P7.2: Encode, for valid adverts of all sizes.
func TestEncode(t *testing.T) {
	for _, a := range valids() {
		if b, e := advert.Encode(a); !bytes.Equal(b, encoded(a)) || e != api.OK {
			t.Errorf("Encode of %v is %v, %d; it should be %v", a, b, e, encoded(a))
		}
	}
}

// P7.2: Encode of adverts that are not valid.
func TestEncodeInvalid(t *testing.T) {
	for _, a := range invalids() {
		if b, e := advert.Encode(a); len(b) != 0 || e != api.ErrInvalid {
			t.Errorf("Encode of %v is %v, %d", a, b, e)
		}
	}
}

// P7.2, P7.5: Decode undoes Encode.
func TestDecode(t *testing.T) {
	for _, a := range valids() {
		b, _ := advert.Encode(a)
		if got, e := advert.Decode(b); !equal(got, a) || e != api.OK {
			t.Errorf("Decode of the encoding of %v is %v, %d", a, got, e)
		}
	}
}

// P7.2: ErrShort for all beginnings of encodings.
func TestDecodeShort(t *testing.T) {
	refuse(t, "nothing", nil, api.ErrShort)
	refuse(t, "no bytes", []byte{}, api.ErrShort)
	for _, a := range valids() {
		b := encoded(a)
		for n := range b {
			refuse(t, "a beginning", b[:n], api.ErrShort)
		}
	}
	// Zeros name no links and claims, ones as many as there may be.
	for n := range 12 {
		compareDecode(t, make([]byte, n))
		compareDecode(t, bytes.Repeat([]byte{255}, n))
	}
}

// P7.2: what the numbers of links and claims name must be there, also if it would not be valid.
func TestDecodeNumbers(t *testing.T) {
	for links := range 32 {
		for claims := range 16 {
			text := digits(1, 7) + digits(1, 20) + "0" + digits(links, 5)
			for i := range links {
				text += digits(2+i, 7) + digits(1, 10) + digits(0, 10)
			}
			text += digits(claims, 4)
			for i := range claims {
				text += digits(i%8, 3) + digits(1, 9) + digits(0, 2)
			}
			b := checked(text)
			a, e := advert.Decode(b)
			if links <= 23 && claims <= 8 {
				if e != api.OK || len(a.Links) != links || len(a.Claims) != claims {
					t.Errorf("Decode of %d links and %d claims is %v, %d", links, claims, a, e)
				}
			} else {
				refuse(t, "too many links or claims", b, api.ErrInvalid)
			}
			refuse(t, "bytes that lack the last one", b[:len(b)-1], api.ErrShort)
			refuse(t, "bytes that lack half", b[:len(b)/2], api.ErrShort)
		}
	}
}

// P7.2: ErrCheck, for each bit and for each check number.
func TestDecodeCheck(t *testing.T) {
	next := random(4)
	for _, a := range []api.Advert{least(), single(), greatest(), randomAdvert(next, 3, 2), randomAdvert(next, 4, 3)} {
		b := encoded(a)
		bits := len(fieldsOf(a)) + 16
		for k := range bits {
			c := slices.Clone(b)
			c[k/8] ^= 128 >> (k % 8)
			compareDecode(t, c)
			// A number of links or claims that has changed moves the check number; elsewhere its place is known.
			if k < 28 || k >= bits-16 {
				refuse(t, "another bit", c, api.ErrCheck)
			}
		}
	}
	text := fieldsOf(single())
	for x := range 65536 {
		_, e := advert.Decode(bytesOf(filled(text + digits(x, 16))))
		if (e == api.OK) != (x == checkOf(text)) || e != api.OK && e != api.ErrCheck {
			t.Fatalf("Decode with the check number %d is the error %d", x, e)
		}
	}
}

// P7.2: ErrPadding for each bit behind the check number.
func TestDecodePadding(t *testing.T) {
	seen := make(map[int]bool)
	for _, a := range valids() {
		b := encoded(a)
		used := (len(fieldsOf(a)) + 16) % 8
		seen[used] = true
		if used == 0 {
			continue
		}
		for x := 1; x < 256>>used; x++ {
			c := slices.Clone(b)
			c[len(c)-1] |= byte(x)
			refuse(t, "another padding", c, api.ErrPadding)
			refuse(t, "another padding and a further byte", append(c, 0), api.ErrPadding)
		}
	}
	if len(seen) != 8 {
		t.Errorf("the tests have only paddings after %v", seen)
	}
}

// P7.2: ErrLong for further bytes, however many there are.
func TestDecodeLong(t *testing.T) {
	for _, a := range []api.Advert{least(), single(), greatest()} {
		for _, n := range []int{1, 2, 7, 100, 1017, 1018, 1024, 1025, 8192, 1000000} {
			for _, x := range []byte{0, 1, 255} {
				b := append(encoded(a), bytes.Repeat([]byte{x}, n)...)
				refuse(t, "an encoding and further bytes", b, api.ErrLong)
				// Another bit of the check number, which ends less than a byte before the end of the encoding.
				b[len(encoded(a))-2] ^= 1
				refuse(t, "another check number and further bytes", b, api.ErrCheck)
			}
		}
	}
	for _, n := range []int{1000, 1023, 1024, 1025, 100000} {
		compareDecode(t, make([]byte, n))
		compareDecode(t, bytes.Repeat([]byte{255}, n))
	}
}

// fits returns the adverts that are not valid, but whose fields have an encoding.
func fits() []api.Advert {
	var l []api.Advert
	next := random(5)
	for _, d := range defects() {
		for range 10 {
			a := randomAdvert(next, 3+next(20), 3+next(5))
			d.make(&a)
			l = append(l, a)
		}
	}
	for _, c := range []struct{ place, number int }{{0, 127}, {1, 1<<20 - 1}, {2, 127}, {3, 1023}, {4, 1023}, {6, 511}} {
		a := single()
		*places(&a)[c.place].place = c.number
		l = append(l, a)
	}
	return append(l, manyLinks(24), manyLinks(31), manyClaims(9), manyClaims(15))
}

// P7.2: ErrInvalid, after all other errors.
func TestDecodeInvalid(t *testing.T) {
	for _, a := range fits() {
		b := encoded(a)
		refuse(t, "an advert that is not valid", b, api.ErrInvalid)
		refuse(t, "an advert that is not valid and a further byte", append(slices.Clone(b), 0), api.ErrLong)
		refuse(t, "the beginning of an advert that is not valid", b[:len(b)-1], api.ErrShort)
		if (len(fieldsOf(a))+16)%8 != 0 {
			b[len(b)-1] ^= 1
			refuse(t, "an advert that is not valid with another padding", b, api.ErrPadding)
			b[len(b)-2] ^= 1
			refuse(t, "an advert that is not valid with another check number and padding", append(b, 0), api.ErrCheck)
		}
	}
}

// anyBytes returns bytes of all values; half of them name few links, so that not all are too short.
func anyBytes(next func(int) int) []byte {
	b := make([]byte, next(60))
	for i := range b {
		b[i] = byte(next(256))
	}
	if len(b) > 4 && next(2) == 0 {
		b[3] &= 240
		b[4] &= 143
	}
	return b
}

// P7.2: Decode of any bytes is what the definition says.
func TestDecodeAny(t *testing.T) {
	next := random(6)
	for range 20000 {
		compareDecode(t, anyBytes(next))
	}
}

// P7.2: Decode of any fields, with a check number behind each of their bits: only where they end it is the right one.
func TestDecodeEnds(t *testing.T) {
	next := random(12)
	seen := make(map[api.Errno]int)
	for range 400 {
		text := textOf(anyBytes(next))
		for k := range len(text) {
			b := checked(text[:k])
			compareDecode(t, b)
			_, e := decoded(b)
			seen[e]++
		}
	}
	for _, e := range []api.Errno{api.OK, api.ErrShort, api.ErrCheck, api.ErrInvalid} {
		if seen[e] == 0 {
			t.Errorf("the tests have no bytes with the error %d", e)
		}
	}
}

// P7.5: Encode undoes Decode: no other bytes than the encoding have an advert.
func TestEncodeUndoes(t *testing.T) {
	next := random(7)
	seen := 0
	for range 3000 {
		b := encoded(randomAdvert(next, next(4), next(4)))
		for range next(3) {
			b[next(len(b))] ^= 1 << next(8)
		}
		a, e := advert.Decode(b)
		if e != api.OK {
			continue
		}
		seen++
		if again, e := advert.Encode(a); !bytes.Equal(again, b) || e != api.OK {
			t.Errorf("Encode of %v, which Decode returned, is %v, %d", a, again, e)
		}
	}
	if seen < 500 || seen > 2500 {
		t.Errorf("%d of the encodings have an advert", seen)
	}
}

// newer is Newer by its definition, for valid adverts.
func newer(a, b api.Advert) bool {
	return a.Router == b.Router && (a.Seq > b.Seq || a.Seq == b.Seq && bytes.Compare(encoded(a), encoded(b)) > 0)
}

// rivals returns valid adverts of one router that are hard to put in order: with few numbers, and with lists of different lengths.
func rivals() []api.Advert {
	l := []api.Advert{
		{Router: 9, Seq: 7}, {Router: 9, Seq: 7, Capable: true}, {Router: 9, Seq: 8}, {Router: 9, Seq: 6, Capable: true},
		{Router: 9, Seq: 1}, {Router: 9, Seq: 1000000}, {Router: 9, Seq: 256}, {Router: 9, Seq: 255},
		{Router: 9, Seq: 7, Links: []api.Reach{{Neighbour: 99, Cost: 1000, Capacity: 1000}}},
		{Router: 9, Seq: 7, Links: []api.Reach{{Neighbour: 1, Cost: 1}, {Neighbour: 2, Cost: 1}}},
		{Router: 9, Seq: 7, Links: []api.Reach{{Neighbour: 1, Cost: 2}, {Neighbour: 2, Cost: 1}}},
		{Router: 9, Seq: 7, Links: []api.Reach{{Neighbour: 1, Cost: 1, Capacity: 1}, {Neighbour: 2, Cost: 1}}},
		{Router: 9, Seq: 7, Links: []api.Reach{{Neighbour: 1, Cost: 1}, {Neighbour: 2, Cost: 256}}},
		{Router: 9, Seq: 7, Links: []api.Reach{{Neighbour: 1, Cost: 1}, {Neighbour: 2, Cost: 255}}},
		{Router: 9, Seq: 7, Links: []api.Reach{{Neighbour: 1, Cost: 1}, {Neighbour: 3, Cost: 1}}},
		{Router: 9, Seq: 7, Claims: []api.Claim{{Subdomain: 7, ID: 256, Length: 64}}},
		{Router: 9, Seq: 7, Claims: []api.Claim{{Subdomain: 0, ID: 1, Length: 8}, {Subdomain: 1, ID: 1, Length: 8}}},
		{Router: 9, Seq: 7, Claims: []api.Claim{{Subdomain: 0, ID: 1, Length: 8}, {Subdomain: 2, ID: 1, Length: 8}}},
		{Router: 9, Seq: 7, Claims: []api.Claim{{Subdomain: 0, ID: 1, Length: 16}}},
		{Router: 9, Seq: 7, Claims: []api.Claim{{Subdomain: 0, ID: 1, Length: 32}}},
		{Router: 9, Seq: 7, Claims: []api.Claim{{Subdomain: 0, ID: 1, Length: 64}}},
		{Router: 9, Seq: 7, Claims: []api.Claim{{Subdomain: 0, ID: 255, Length: 8}}},
		{Router: 9, Seq: 7, Claims: []api.Claim{{Subdomain: 0, ID: 256, Length: 8}}},
		{Router: 9, Seq: 7, Links: []api.Reach{{Neighbour: 1, Cost: 1}}, Claims: []api.Claim{{Subdomain: 0, ID: 1, Length: 8}}},
		{Router: 9, Seq: 7, Links: []api.Reach{{Neighbour: 1, Cost: 2}}},
	}
	next := random(8)
	for range 60 {
		a := api.Advert{Router: 9, Seq: 7 + next(2), Capable: next(2) == 0}
		for n := 10; n < 13; n++ {
			if next(2) == 0 {
				a.Links = append(a.Links, api.Reach{Neighbour: n, Cost: 1 + next(2), Capacity: next(2)})
			}
		}
		for s := range 2 {
			if next(2) == 0 {
				a.Claims = append(a.Claims, api.Claim{Subdomain: s, ID: 1 + next(2), Length: lengths[next(2)]})
			}
		}
		l = append(l, a)
	}
	return l
}

// P7.3, P7.5: Newer by its definition; of two adverts that are not Same one is Newer; Newer is transitive.
func TestNewer(t *testing.T) {
	all := rivals()
	for _, a := range all {
		for _, b := range all {
			forth, back := advert.Newer(a, b), advert.Newer(b, a)
			if forth != newer(a, b) {
				t.Errorf("Newer of %v and %v is %t", a, b, forth)
			}
			if forth && back || (forth || back) == advert.Same(a, b) {
				t.Errorf("Newer of %v and %v is %t, and back it is %t", a, b, forth, back)
			}
			for _, c := range all {
				if forth && advert.Newer(b, c) && !advert.Newer(a, c) {
					t.Errorf("Newer is not transitive for %v, %v and %v", a, b, c)
				}
			}
		}
	}
}

// P7.3: Newer of random adverts with the same Router and Seq, and of equal ones.
func TestNewerRandom(t *testing.T) {
	next := random(9)
	for range 3000 {
		a := randomAdvert(next, next(24), next(9))
		b := randomAdvert(next, next(24), next(9))
		for advert.Valid(b) && next(3) != 0 {
			b = randomAdvert(next, len(a.Links), next(9))
			b.Router, b.Seq, b.Capable = a.Router, a.Seq, a.Capable
		}
		if !advert.Valid(b) {
			continue
		}
		if got := advert.Newer(a, b); got != newer(a, b) {
			t.Errorf("Newer of %v and %v is %t", a, b, got)
		}
		if advert.Newer(a, copied(a)) {
			t.Errorf("%v is newer than itself", a)
		}
	}
}

// P7.3: the adverts of different routers are not newer, and neither is what is not valid.
func TestNewerNever(t *testing.T) {
	a, b := single(), single()
	b.Router, b.Seq = a.Router-1, a.Seq+1
	if advert.Newer(a, b) || advert.Newer(b, a) {
		t.Error("an advert of another router is newer")
	}
	for _, bad := range invalids() {
		good := single()
		if bad.Router >= 1 && bad.Router <= 99 {
			good.Router = bad.Router
			good.Links = nil
		}
		for _, seq := range []int{1, 1000000} {
			good.Seq = seq
			if !advert.Valid(good) {
				t.Fatalf("%v should be valid", good)
			}
			if advert.Newer(good, bad) || advert.Newer(bad, good) {
				t.Errorf("Newer of %v and %v, which is not valid, is true", good, bad)
			}
		}
		later := copied(bad)
		if later.Seq < math.MaxInt {
			later.Seq++
		}
		if !advert.Valid(later) && (advert.Newer(later, bad) || advert.Newer(bad, later)) {
			t.Errorf("Newer of %v and %v, which are not valid, is true", later, bad)
		}
	}
}

// chain returns a topology of the routers 1, 2, 3 and 9; 2 is not capable, and 9 has no links.
func chain() api.Topology {
	return api.Topology{
		Routers: []api.Router{{ID: 1, Capable: true}, {ID: 2}, {ID: 3, Capable: true}, {ID: 9}},
		Links:   []api.Link{{A: 1, B: 2, CostA: 10, CostB: 20, Capacity: 30}, {A: 2, B: 3, CostA: 11, CostB: 21}},
	}
}

// meshed returns a valid topology of n mixed routers in which each pair has a link with one chance in thin, as far as there may be links.
func meshed(next func(int) int, n, thin int) api.Topology {
	var t api.Topology
	for _, id := range chosen(next, n, 1, 99, 0) {
		t.Routers = append(t.Routers, api.Router{ID: id, Capable: next(2) == 0})
	}
	for i, a := range t.Routers {
		for _, b := range t.Routers[i+1:] {
			if next(thin) == 0 && len(t.Links) < 60 {
				t.Links = append(t.Links, api.Link{A: a.ID, B: b.ID, CostA: 1 + next(1000), CostB: 1 + next(1000), Capacity: next(1001)})
			}
		}
	}
	return t
}

// star returns a topology of 24 routers in which one has links to all others.
func star(middle int) api.Topology {
	var t api.Topology
	for id := 76; id <= 99; id++ {
		t.Routers = append(t.Routers, api.Router{ID: id})
		if id != middle {
			t.Links = append(t.Links, api.Link{A: min(id, middle), B: max(id, middle), CostA: id, CostB: 1000 - id, Capacity: 2 * id})
		}
	}
	return t
}

// own returns the advert of a router of a valid topology: each other number is looked for as its neighbour.
func own(t api.Topology, router, seq int, claims []api.Claim) api.Advert {
	a := api.Advert{Router: router, Seq: seq, Claims: claims}
	for _, r := range t.Routers {
		if r.ID == router {
			a.Capable = r.Capable
		}
	}
	for n := 1; n <= 99; n++ {
		for _, l := range t.Links {
			switch {
			case l.A == router && l.B == n:
				a.Links = append(a.Links, api.Reach{Neighbour: n, Cost: l.CostA, Capacity: l.Capacity})
			case l.A == n && l.B == router:
				a.Links = append(a.Links, api.Reach{Neighbour: n, Cost: l.CostB, Capacity: l.Capacity})
			}
		}
	}
	return a
}

// P7.4: the adverts of a chain, written by hand.
func TestOfKnown(t *testing.T) {
	claims := []api.Claim{{Subdomain: 0, ID: 5, Length: 8}, {Subdomain: 7, ID: 256, Length: 64}}
	for _, want := range []api.Advert{
		{Router: 1, Seq: 4, Capable: true, Links: []api.Reach{{Neighbour: 2, Cost: 10, Capacity: 30}}, Claims: claims},
		{Router: 2, Seq: 1, Links: []api.Reach{{Neighbour: 1, Cost: 20, Capacity: 30}, {Neighbour: 3, Cost: 11}}},
		{Router: 3, Seq: 1000000, Capable: true, Links: []api.Reach{{Neighbour: 2, Cost: 21}}, Claims: claims[1:]},
		{Router: 9, Seq: 2},
	} {
		if got, e := advert.Of(chain(), want.Router, want.Seq, want.Claims); !equal(got, want) || e != api.OK {
			t.Errorf("Of %d is %v, %d; it should be %v", want.Router, got, e, want)
		}
	}
}

// P7.4: the adverts of all routers of topologies.
func TestOf(t *testing.T) {
	next := random(10)
	l := []api.Topology{chain(), star(76), star(90), star(99)}
	for n := 1; n <= 24; n++ {
		for thin := 1; thin <= 7; thin += 2 {
			l = append(l, meshed(next, n, thin))
		}
	}
	for _, n := range l {
		for _, r := range n.Routers {
			seq, claims := 1+next(1000000), randomAdvert(next, 0, next(9)).Claims
			want := own(n, r.ID, seq, claims)
			got, e := advert.Of(n, r.ID, seq, claims)
			if !equal(got, want) || e != api.OK || !advert.Valid(got) {
				t.Errorf("Of %d in %v is %v, %d; it should be %v", r.ID, n, got, e, want)
			}
		}
	}
}

// refuseOf expects an error of Of, and no advert.
func refuseOf(t *testing.T, what string, n api.Topology, router, seq int, claims []api.Claim, want api.Errno) {
	t.Helper()
	if a, e := advert.Of(n, router, seq, claims); !zero(a) || e != want {
		t.Errorf("Of with %s is %v, %d; it should be the error %d", what, a, e, want)
	}
}

// P7.4: the errors of Of, and their order.
func TestOfErrors(t *testing.T) {
	bad := [][]api.Claim{
		{{Subdomain: 8, ID: 1, Length: 8}}, {{Subdomain: -1, ID: 1, Length: 8}}, {{ID: 0, Length: 8}}, {{ID: 257, Length: 8}}, {{ID: 1}}, {{ID: 1, Length: 9}},
		{{Subdomain: 1, ID: 1, Length: 8}, {Subdomain: 1, ID: 2, Length: 8}}, {{Subdomain: 1, ID: 1, Length: 8}, {Subdomain: 0, ID: 2, Length: 8}},
		manyClaims(9).Claims, make([]api.Claim, 100000),
	}
	for _, claims := range bad {
		refuseOf(t, "claims that are not valid", chain(), 2, 1, claims, api.ErrRange)
		refuseOf(t, "an unknown router and claims that are not valid", chain(), 4, 1, claims, api.ErrUnknown)
	}
	for _, seq := range append([]int{0, 1000001}, far...) {
		refuseOf(t, "another Seq", chain(), 1, seq, nil, api.ErrRange)
		refuseOf(t, "an unknown router and another Seq", chain(), 8, seq, nil, api.ErrUnknown)
	}
	for _, router := range append([]int{0, 4, 8, 10, 99, 100}, far...) {
		refuseOf(t, "an unknown router", chain(), router, 1, nil, api.ErrUnknown)
		refuseOf(t, "an unknown router of no topology", api.Topology{}, router, 1, nil, api.ErrUnknown)
	}
	for i, spoil := range []func(n *api.Topology){
		func(n *api.Topology) { n.Routers = make([]api.Router, 25) },
		func(n *api.Topology) { n.Links = make([]api.Link, 61) },
		func(n *api.Topology) { n.Routers[3].ID = 100 },
		func(n *api.Topology) { n.Routers[2], n.Routers[3] = n.Routers[3], n.Routers[2] },
		func(n *api.Topology) { n.Links[1].CostB = 0 },
		func(n *api.Topology) { n.Links[1].B = 4 },
		func(n *api.Topology) { n.Links[1].A, n.Links[1].B = 3, 2 },
		func(n *api.Topology) { n.Links[0], n.Links[1] = n.Links[1], n.Links[0] },
	} {
		n := chain()
		spoil(&n)
		name := "topology " + strconv.Itoa(i)
		refuseOf(t, name, n, 1, 1, nil, api.ErrInvalid)
		refuseOf(t, name+" and an unknown router", n, 5, 1, nil, api.ErrInvalid)
		refuseOf(t, name+" and another Seq", n, 1, 0, nil, api.ErrInvalid)
		refuseOf(t, name+" and claims that are not valid", n, 1, 1, bad[0], api.ErrInvalid)
	}
}

// R5, R6: arguments stay as they are, and equal ones give equal results.
func TestArgumentsStay(t *testing.T) {
	for _, a := range slices.Concat(valids(), invalids(), fits()) {
		before := copied(a)
		n := chain()
		claims := slices.Clone(a.Claims)
		first, e := advert.Encode(a)
		kept := slices.Clone(first)
		got, f := advert.Decode(first)
		own, g := advert.Of(n, 1, a.Seq, claims)
		for range 2 {
			advert.Valid(a)
			advert.Same(a, a)
			advert.Newer(a, a)
			again, e2 := advert.Encode(a)
			got2, f2 := advert.Decode(first)
			own2, g2 := advert.Of(n, 1, a.Seq, claims)
			if !bytes.Equal(first, again) || e2 != e || !equal(got2, got) || f2 != f || !equal(own2, own) || g2 != g {
				t.Errorf("other results for %v", before)
			}
		}
		if !equal(a, before) || !bytes.Equal(first, kept) || !slices.Equal(claims, before.Claims) {
			t.Errorf("%v has become %v", before, a)
		}
		if !slices.Equal(n.Routers, chain().Routers) || !slices.Equal(n.Links, chain().Links) {
			t.Error("the topology has changed")
		}
	}
}

// spoil overwrites the lists of an advert, and what may follow behind them.
func spoil(a api.Advert) {
	for i := range a.Links {
		a.Links[i] = api.Reach{Neighbour: -1}
	}
	for i := range a.Claims {
		a.Claims[i] = api.Claim{ID: -1}
	}
	_ = append(a.Links, api.Reach{Neighbour: -2})
	_ = append(a.Claims, api.Claim{ID: -2})
}

// R5: results share no memory with arguments, nor with other results.
func TestMemory(t *testing.T) {
	a := greatest()
	b, _ := advert.Encode(a)
	kept := slices.Clone(b)
	first, _ := advert.Decode(b)
	second, _ := advert.Decode(b)
	spoil(second)
	if !equal(first, a) || !bytes.Equal(b, kept) {
		t.Error("a result of Decode shares memory")
	}
	other, _ := advert.Encode(a)
	for i := range other {
		other[i] = 0
	}
	again, _ := advert.Encode(a)
	if !bytes.Equal(b, kept) || !bytes.Equal(again, kept) || !equal(a, greatest()) {
		t.Error("a result of Encode shares memory")
	}
	claims := greatest().Claims
	n := star(80)
	for _, some := range [][]api.Claim{claims, claims[:3], claims[:0]} {
		got, e := advert.Of(n, 80, 1, some)
		if e != api.OK || len(got.Claims) != len(some) {
			t.Fatalf("Of is %v, %d", got, e)
		}
		spoil(got)
		if !slices.Equal(claims, greatest().Claims) || !slices.Equal(n.Links, star(80).Links) {
			t.Fatal("a result of Of shares memory")
		}
	}
}
