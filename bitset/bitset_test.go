package bitset_test

import (
	"math"
	"slices"
	"strings"
	"testing"

	"bitcast/api"
	"bitcast/bitset"
)

const all = 1<<64 - 1

// samples returns bit strings with few, with many and with mixed bits.
func samples() []uint64 {
	l := []uint64{0, 1, 2, 3, 10, 127, 128, 129, 255, 256, 257, 1 << 15, 65535, 65536, 1 << 31, 1<<32 - 1, 1 << 32, 1 << 62, 1 << 63, 1<<63 + 1, 3 << 62, 0x5555555555555555, 0xaaaaaaaaaaaaaaaa, 0x00ff00ff00ff00ff, all - 1, all >> 1, all}
	x := uint64(1)
	for range 60 {
		// A fixed sequence keeps each run of the tests the same.
		x = x*6364136223846793005 + 1442695040888963407
		y := x ^ x>>29
		l = append(l, y, y>>56, y>>48, y>>32)
	}
	return l
}

// numbers returns numbers around those at which an answer changes, and the ends of int.
func numbers() []int {
	l := []int{math.MinInt, math.MinInt + 1, -1 << 32, math.MaxInt - 1, math.MaxInt}
	for _, n := range []int{8, 16, 32, 64} {
		// Numbers whose lowest bits look like a length.
		l = append(l, 1<<8+n, 1<<16+n, 1<<32+n, math.MinInt+n)
	}
	for n := -80; n <= 140; n++ {
		l = append(l, n)
	}
	return l
}

var lengths = []int{8, 16, 32, 64}

// has says whether b has the bit k, by the definition.
func has(b uint64, k int) bool {
	for range k {
		b /= 2
	}
	return b%2 == 1
}

// listed returns the bits of b, by the definition.
func listed(b uint64) []int {
	var l []int
	for k := range 64 {
		if has(b, k) {
			l = append(l, k)
		}
	}
	return l
}

// P1.1: ValidLength.
func TestValidLength(t *testing.T) {
	for _, n := range numbers() {
		if got := bitset.ValidLength(n); got != slices.Contains(lengths, n) {
			t.Errorf("ValidLength(%d) is %t", n, got)
		}
	}
}

// P1.1: Full.
func TestFull(t *testing.T) {
	want := map[int]uint64{8: 255, 16: 65535, 32: 4294967295, 64: 18446744073709551615}
	for _, n := range numbers() {
		if got := bitset.Full(n); got != want[n] {
			t.Errorf("Full(%d) is %d", n, got)
		}
	}
}

// P1.1: Valid.
func TestValid(t *testing.T) {
	for _, n := range numbers() {
		for _, b := range samples() {
			want := slices.Contains(lengths, n)
			for _, k := range listed(b) {
				want = want && k < n
			}
			if got := bitset.Valid(b, n); got != want {
				t.Errorf("Valid(%d, %d) is %t", b, n, got)
			}
		}
	}
	for _, n := range lengths {
		for k := range 64 {
			if got := bitset.Valid(1<<k, n); got != (k < n) {
				t.Errorf("Valid(1<<%d, %d) is %t", k, n, got)
			}
		}
	}
}

// P1.2: Count and First.
func TestCountAndFirst(t *testing.T) {
	for _, b := range samples() {
		l := listed(b)
		first := -1
		if len(l) > 0 {
			first = l[0]
		}
		if bitset.Count(b) != len(l) || bitset.First(b) != first {
			t.Errorf("%d: Count is %d, First is %d", b, bitset.Count(b), bitset.First(b))
		}
	}
	for k := range 64 {
		if bitset.Count(1<<k) != 1 || bitset.First(1<<k) != k || bitset.First(all<<k) != k {
			t.Errorf("the bit %d: Count is %d, First is %d", k, bitset.Count(1<<k), bitset.First(1<<k))
		}
	}
}

// P1.2: Nth.
func TestNth(t *testing.T) {
	for _, b := range samples() {
		l := listed(b)
		for _, n := range numbers() {
			want := -1
			if n >= 0 && n < len(l) {
				want = l[n]
			}
			if got := bitset.Nth(b, n); got != want {
				t.Errorf("Nth(%d, %d) is %d", b, n, got)
			}
		}
	}
}

// P1.2: Rank.
func TestRank(t *testing.T) {
	for _, b := range samples() {
		for _, k := range numbers() {
			want := 0
			for _, bit := range listed(b) {
				if bit < k {
					want++
				}
			}
			if got := bitset.Rank(b, k); got != want {
				t.Errorf("Rank(%d, %d) is %d", b, k, got)
			}
		}
	}
}

// P1.3: List.
func TestList(t *testing.T) {
	for _, b := range samples() {
		if got := bitset.List(b); !slices.Equal(got, listed(b)) {
			t.Errorf("List(%d) is %v", b, got)
		}
	}
	l := bitset.List(10)
	l[0] = 7
	if got := bitset.List(10); !slices.Equal(got, []int{1, 3}) {
		t.Errorf("List is %v after its result was changed", got)
	}
}

// P1.3: Of, in all orders of the bits.
func TestOf(t *testing.T) {
	for _, b := range samples() {
		for _, n := range lengths {
			b &= bitset.Full(n)
			l := listed(b)
			for range 3 {
				before := slices.Clone(l)
				if got, e := bitset.Of(l, n); got != b || e != api.OK {
					t.Errorf("Of(%v, %d) is %d, %d", l, n, got, e)
				}
				if !slices.Equal(l, before) {
					t.Errorf("Of has changed its list to %v", l)
				}
				slices.Reverse(l)
				l = slices.Concat(l[len(l)/2:], l[:len(l)/2])
			}
		}
	}
}

// P1.3: the errors of Of, and their order.
func TestOfErrors(t *testing.T) {
	for _, c := range []struct {
		l      []int
		length int
		want   api.Errno
	}{
		{nil, 0, api.ErrInvalid},
		{nil, 7, api.ErrInvalid},
		{[]int{}, -8, api.ErrInvalid},
		{[]int{1}, 24, api.ErrInvalid},
		{[]int{1}, 128, api.ErrInvalid},
		{[]int{1, 1}, 9, api.ErrInvalid},
		{[]int{-1}, 65, api.ErrInvalid},
		{[]int{99, 99}, math.MaxInt, api.ErrInvalid},
		{[]int{0}, math.MinInt, api.ErrInvalid},
		{[]int{8}, 8, api.ErrRange},
		{[]int{16}, 16, api.ErrRange},
		{[]int{32}, 32, api.ErrRange},
		{[]int{64}, 64, api.ErrRange},
		{[]int{-1}, 64, api.ErrRange},
		{[]int{0, 1, math.MaxInt}, 32, api.ErrRange},
		{[]int{math.MinInt, 0}, 32, api.ErrRange},
		{[]int{1 << 32}, 8, api.ErrRange},
		{[]int{3, 3, 8}, 8, api.ErrRange},
		{[]int{3, 3, -1}, 8, api.ErrRange},
		{[]int{8, 8}, 8, api.ErrRange},
		{[]int{3, 3}, 8, api.ErrDuplicate},
		{[]int{0, 1, 0}, 8, api.ErrDuplicate},
		{[]int{63, 1, 2, 63}, 64, api.ErrDuplicate},
	} {
		if got, e := bitset.Of(c.l, c.length); got != 0 || e != c.want {
			t.Errorf("Of(%v, %d) is %d, %d", c.l, c.length, got, e)
		}
	}
}

// P1.4: Split, against each bit's first mask.
func TestSplit(t *testing.T) {
	for i, b := range samples() {
		masks := samples()[i%5 : i%5+i%9]
		before := slices.Clone(masks)
		parts, rest := bitset.Split(b, masks)
		if !slices.Equal(masks, before) {
			t.Fatalf("Split has changed its masks to %v", masks)
		}
		if len(parts) != len(masks) {
			t.Fatalf("%d parts of %d masks", len(parts), len(masks))
		}
		for k := range 64 {
			owner := -1
			for j, m := range masks {
				if owner < 0 && has(b, k) && has(m, k) {
					owner = j
				}
			}
			for j, p := range parts {
				if has(p, k) != (j == owner) {
					t.Errorf("Split(%d, %v): part %d is %d", b, masks, j, p)
				}
			}
			if has(rest, k) != (has(b, k) && owner < 0) {
				t.Errorf("Split(%d, %v): rest is %d", b, masks, rest)
			}
		}
	}
}

// P1.4: Split with no masks, empty, equal and overlapping ones.
func TestSplitMasks(t *testing.T) {
	for _, c := range []struct {
		b           uint64
		masks, want []uint64
		rest        uint64
	}{
		{15, nil, nil, 15},
		{15, []uint64{}, nil, 15},
		{0, []uint64{all, all}, []uint64{0, 0}, 0},
		{15, []uint64{6, 3}, []uint64{6, 1}, 8},
		{15, []uint64{3, 6}, []uint64{3, 4}, 8},
		{15, []uint64{0, 6, 6, 16}, []uint64{0, 6, 0, 0}, 9},
		{10, []uint64{all, 10}, []uint64{10, 0}, 0},
		{8, []uint64{9, 8}, []uint64{8, 0}, 0},
		// The first mask has the bit 0, though b does not: that keeps nothing from the second one.
		{2, []uint64{1, 3}, []uint64{0, 2}, 0},
	} {
		parts, rest := bitset.Split(c.b, c.masks)
		if !slices.Equal(parts, c.want) || rest != c.rest {
			t.Errorf("Split(%d, %v) is %v, %d", c.b, c.masks, parts, rest)
		}
	}
	masks := make([]uint64, 2, 8)
	parts, _ := bitset.Split(15, masks)
	parts[0], parts[1] = 7, 7
	if !slices.Equal(masks[:4], []uint64{0, 0, 0, 0}) {
		t.Errorf("the parts share memory with the masks: %v", masks[:4])
	}
}

// P1.5: Spread and Gather, bit by bit.
func TestSpreadAndGather(t *testing.T) {
	l := samples()
	for i, b := range l {
		for j := range l {
			x := l[(i+j)%len(l)]
			var spread, gather uint64
			for n, k := range listed(b) {
				if has(x, n) {
					spread += 1 << k
				}
				if has(x, k) {
					gather += 1 << n
				}
			}
			if got := bitset.Spread(x, b); got != spread {
				t.Errorf("Spread(%d, %d) is %d", x, b, got)
			}
			if got := bitset.Gather(x, b); got != gather {
				t.Errorf("Gather(%d, %d) is %d", x, b, got)
			}
		}
	}
}

// P1.6: Bytes and FromBytes.
func TestBytes(t *testing.T) {
	for _, c := range []struct {
		b    uint64
		want []byte
	}{
		{0, []byte{0}},
		{10, []byte{10}},
		{255, []byte{255}},
		{0, []byte{0, 0}},
		{0x0102, []byte{1, 2}},
		{0xff00, []byte{255, 0}},
		{0x01020304, []byte{1, 2, 3, 4}},
		{0x80000001, []byte{128, 0, 0, 1}},
		{1, []byte{0, 0, 0, 0, 0, 0, 0, 1}},
		{0x01020304fcfdfeff, []byte{1, 2, 3, 4, 252, 253, 254, 255}},
		{all, []byte{255, 255, 255, 255, 255, 255, 255, 255}},
	} {
		length := 8 * len(c.want)
		if got, e := bitset.Bytes(c.b, length); !slices.Equal(got, c.want) || e != api.OK {
			t.Errorf("Bytes(%d, %d) is %v, %d", c.b, length, got, e)
		}
		if b, n, e := bitset.FromBytes(c.want); b != c.b || n != length || e != api.OK {
			t.Errorf("FromBytes(%v) is %d, %d, %d", c.want, b, n, e)
		}
	}
	l, _ := bitset.Bytes(258, 16)
	l[0] = 7
	if got, _ := bitset.Bytes(258, 16); !slices.Equal(got, []byte{1, 2}) {
		t.Errorf("Bytes is %v after its result was changed", got)
	}
}

// P1.6: the errors of Bytes, and their order.
func TestBytesErrors(t *testing.T) {
	for _, n := range numbers() {
		for _, b := range samples() {
			want := api.OK
			if !slices.Contains(lengths, n) {
				want = api.ErrRange
			} else if n < 64 && b >= 1<<n {
				want = api.ErrInvalid
			}
			got, e := bitset.Bytes(b, n)
			if e != want || e != api.OK && len(got) != 0 {
				t.Errorf("Bytes(%d, %d) is %v, %d", b, n, got, e)
			}
		}
	}
}

// P1.6: FromBytes takes 1, 2, 4 or 8 bytes.
func TestFromBytesErrors(t *testing.T) {
	for _, n := range []int{0, 3, 5, 6, 7, 9, 10, 12, 16, 24, 32, 64, 256, 1 << 16} {
		l := slices.Repeat([]byte{1}, n)
		if b, length, e := bitset.FromBytes(l); b != 0 || length != 0 || e != api.ErrRange {
			t.Errorf("FromBytes of %d bytes is %d, %d, %d", n, b, length, e)
		}
	}
	if b, length, e := bitset.FromBytes(nil); b != 0 || length != 0 || e != api.ErrRange {
		t.Errorf("FromBytes(nil) is %d, %d, %d", b, length, e)
	}
	l := []byte{1, 2, 3, 4}
	bitset.FromBytes(l)
	if !slices.Equal(l, []byte{1, 2, 3, 4}) {
		t.Errorf("FromBytes has changed its bytes to %v", l)
	}
}

// P1.7: Format and Parse.
func TestTexts(t *testing.T) {
	for _, c := range []struct {
		b uint64
		s string
	}{
		{0, "00000000"},
		{10, "00001010"},
		{1, "00000001"},
		{128, "10000000"},
		{255, "11111111"},
		{10, "0000000000001010"},
		{1 << 15, "1000000000000000"},
		{1<<31 + 2, "10000000000000000000000000000010"},
		{1<<63 + 6, "1" + strings.Repeat("0", 60) + "110"},
		{all, strings.Repeat("1", 64)},
	} {
		if got := bitset.Format(c.b, len(c.s)); got != c.s {
			t.Errorf("Format(%d, %d) is %q", c.b, len(c.s), got)
		}
		if b, n, e := bitset.Parse(c.s); b != c.b || n != len(c.s) || e != api.OK {
			t.Errorf("Parse(%q) is %d, %d, %d", c.s, b, n, e)
		}
	}
}

// P1.7: Format is empty exactly for bit strings that are not valid.
func TestFormatEmpty(t *testing.T) {
	for _, n := range numbers() {
		for _, b := range samples() {
			want := 0
			if slices.Contains(lengths, n) && (n == 64 || b < 1<<n) {
				want = n
			}
			if got := bitset.Format(b, n); len(got) != want {
				t.Errorf("Format(%d, %d) is %q", b, n, got)
			}
		}
	}
}

// P1.7: the errors of Parse, and their order.
func TestParseErrors(t *testing.T) {
	for n := range 140 {
		want := api.ErrRange
		if slices.Contains(lengths, n) {
			want = api.ErrSyntax
		}
		for _, c := range []string{"2", "/", ":", "9", " ", "\n", "\x00", "\xff", "a", "x", "+", "-", "_", "."} {
			for at := range n {
				s := strings.Repeat("1", at) + c + strings.Repeat("0", n-at-1)
				if b, length, e := bitset.Parse(s); b != 0 || length != 0 || e != want {
					t.Fatalf("Parse(%q) is %d, %d, %d", s, b, length, e)
				}
			}
		}
		if want == api.ErrRange {
			s := strings.Repeat("1", n)
			if b, length, e := bitset.Parse(s); b != 0 || length != 0 || e != api.ErrRange {
				t.Errorf("Parse(%q) is %d, %d, %d", s, b, length, e)
			}
		}
	}
	// The length is that in bytes.
	if _, _, e := bitset.Parse("000000\u00e9"); e != api.ErrSyntax {
		t.Errorf("eight bytes with another character: %d", e)
	}
	if _, _, e := bitset.Parse("0000000\u00e9"); e != api.ErrRange {
		t.Errorf("nine bytes: %d", e)
	}
}

// P1.8: the parts of Split and the rest are apart, and make up b.
func TestSplitIsPartition(t *testing.T) {
	l := samples()
	for i, b := range l {
		parts, rest := bitset.Split(b, l[i%40:i%40+i%7])
		union := rest
		for _, p := range parts {
			if union&p != 0 {
				t.Errorf("Split of %d: a bit of %d occurs twice", b, p)
			}
			union |= p
		}
		if union != b {
			t.Errorf("Split of %d: the union is %d", b, union)
		}
	}
}

// P1.8: Gather and Spread, one after the other.
func TestSpreadUndone(t *testing.T) {
	for _, b := range samples() {
		for _, x := range samples() {
			lowest := x
			if n := bitset.Count(b); n < 64 {
				lowest = x % (1 << n)
			}
			if got := bitset.Gather(bitset.Spread(x, b), b); got != lowest {
				t.Errorf("Gather of Spread of %d over %d is %d", x, b, got)
			}
			if got := bitset.Spread(bitset.Gather(x, b), b); got != x&b {
				t.Errorf("Spread of Gather of %d over %d is %d", x, b, got)
			}
		}
	}
}

// P1.8: Rank undoes Nth.
func TestRankOfNth(t *testing.T) {
	for _, b := range samples() {
		for n := range bitset.Count(b) {
			if got := bitset.Rank(b, bitset.Nth(b, n)); got != n {
				t.Errorf("Rank of Nth %d of %d is %d", n, b, got)
			}
		}
	}
}

// P1.8: FromBytes undoes Bytes, and Parse undoes Format.
func TestBytesAndTextsUndone(t *testing.T) {
	for _, n := range lengths {
		for _, x := range samples() {
			b := x & bitset.Full(n)
			l, _ := bitset.Bytes(b, n)
			if got, length, e := bitset.FromBytes(l); got != b || length != n || e != api.OK {
				t.Errorf("FromBytes of Bytes of %d is %d, %d, %d", b, got, length, e)
			}
			if got, length, e := bitset.Parse(bitset.Format(b, n)); got != b || length != n || e != api.OK {
				t.Errorf("Parse of Format of %d is %d, %d, %d", b, got, length, e)
			}
		}
	}
}

// The chapter's own examples, as they stand there.
func TestExamples(t *testing.T) {
	if got := bitset.List(10); !slices.Equal(got, []int{1, 3}) {
		t.Errorf("List(10) is %v", got)
	}
	if bitset.Nth(10, 1) != 3 || bitset.Rank(10, 3) != 1 || bitset.Format(10, 8) != "00001010" || bitset.Spread(2, 10) != 8 {
		t.Error("an example is wrong")
	}
	parts, rest := bitset.Split(15, []uint64{6, 3})
	if !slices.Equal(parts, []uint64{6, 1}) || rest != 8 {
		t.Errorf("Split(15, {6, 3}) is %v, %d", parts, rest)
	}
}
