package bitio_test

import (
	"math"
	"slices"
	"strings"
	"testing"

	"bitcast/api"
	"bitcast/bitio"
)

const all = 1<<64 - 1

// random returns a fixed sequence of numbers, so that each run of the tests is the same.
func random(seed uint64) func() uint64 {
	x := seed
	return func() uint64 {
		x = x*6364136223846793005 + 1442695040888963407
		return x ^ x>>29
	}
}

// textOf returns the bits of a stream as a text, by the definition of its bit i.
func textOf(s api.Stream) string {
	var b strings.Builder
	for i := range s.Bits {
		b.WriteByte('0' + s.Data[i/8]>>(7-i%8)&1)
	}
	return b.String()
}

// streamOf returns the stream with these bits, by the definition of its bit i.
func streamOf(text string) api.Stream {
	s := api.Stream{Data: make([]byte, (len(text)+7)/8), Bits: len(text)}
	for i := range len(text) {
		if text[i] == '1' {
			s.Data[i/8] += 1 << (7 - i%8)
		}
	}
	return s
}

// numberOf returns the number with these bits, the most significant one first.
func numberOf(text string) uint64 {
	var x uint64
	for _, c := range text {
		x = 2*x + uint64(c-'0')
	}
	return x
}

// fieldOf returns the n lowest bits of a number, the most significant one first.
func fieldOf(value uint64, n int) string {
	text := ""
	for range n {
		text = string(rune('0'+value%2)) + text
		value /= 2
	}
	return text
}

// randomText returns n bits.
func randomText(next func() uint64, n int) string {
	l := make([]byte, n)
	for i := range l {
		l[i] = '0' + byte(next()>>40&1)
	}
	return string(l)
}

// texts returns streams of all small lengths and of some greater ones, with zeros, ones and mixed bits.
func texts() []string {
	next := random(1)
	l := []string{strings.Repeat("1", api.MaxBits), randomText(next, api.MaxBits-1), randomText(next, 777), randomText(next, 1024)}
	for n := range 36 {
		l = append(l, strings.Repeat("0", n), strings.Repeat("1", n), randomText(next, n))
	}
	return l
}

// invalid returns streams that are not valid, each for another reason.
func invalid() []api.Stream {
	l := []api.Stream{
		{Bits: 1},
		{Bits: 8},
		{Bits: -1},
		{Bits: -8},
		{Data: []byte{0}, Bits: -8},
		{Data: []byte{0}, Bits: -1},
		{Data: []byte{0}},
		{Data: []byte{0}, Bits: 9},
		{Data: []byte{0, 0}, Bits: 8},
		{Data: []byte{0, 0}, Bits: 1},
		{Data: []byte{0, 0}, Bits: 17},
		{Bits: math.MinInt},
		{Bits: math.MaxInt},
		{Bits: math.MaxInt - 7},
		{Bits: math.MinInt + 8},
		// As many bytes as a division that wraps around would give.
		{Data: []byte{0}, Bits: math.MaxInt},
		{Data: make([]byte, api.MaxBits/8), Bits: api.MaxBits + 1},
		{Data: make([]byte, api.MaxBits/8+1), Bits: api.MaxBits + 1},
		{Data: make([]byte, api.MaxBits/8+1), Bits: api.MaxBits + 8},
		{Data: make([]byte, api.MaxBits/8+1), Bits: api.MaxBits},
		{Data: make([]byte, api.MaxBits/8-1), Bits: api.MaxBits},
	}
	for bits := 1; bits < 24; bits++ {
		for k := bits % 8; k%8 != 0; k++ {
			s := streamOf(strings.Repeat("1", bits))
			s.Data[bits/8] |= 1 << (7 - k)
			l = append(l, s)
		}
	}
	return l
}

// same says whether two streams are equal, with nil and no bytes alike.
func same(a, b api.Stream) bool { return a.Bits == b.Bits && slices.Equal(a.Data, b.Data) }

// expect compares a stream with the bits that it should have.
func expect(t *testing.T, name string, s api.Stream, e api.Errno, want string) {
	t.Helper()
	if e != api.OK || !same(s, streamOf(want)) {
		t.Errorf("%s is %v, %d; it should be %v", name, s, e, streamOf(want))
	}
}

// refuse compares an error with the one that should be, and wants no result with it.
func refuse(t *testing.T, name string, s api.Stream, e, want api.Errno) {
	t.Helper()
	if e != want || s.Bits != 0 || len(s.Data) != 0 {
		t.Errorf("%s is %v, %d; it should be %d", name, s, e, want)
	}
}

// P2.1: valid streams.
func TestValid(t *testing.T) {
	for _, text := range texts() {
		if !bitio.Valid(streamOf(text)) {
			t.Errorf("a stream of %d bits should be valid", len(text))
		}
	}
	for n := range api.MaxBits + 1 {
		if !bitio.Valid(streamOf(strings.Repeat("0", n))) || !bitio.Valid(streamOf(strings.Repeat("1", n))) {
			t.Errorf("a stream of %d equal bits should be valid", n)
		}
	}
	if !bitio.Valid(api.Stream{}) || !bitio.Valid(api.Stream{Data: []byte{}}) {
		t.Error("the empty stream should be valid")
	}
}

// P2.1: streams that are not valid.
func TestNotValid(t *testing.T) {
	for i, s := range invalid() {
		if bitio.Valid(s) {
			t.Errorf("%d: a stream of %d bits and %d bytes should not be valid", i, s.Bits, len(s.Data))
		}
	}
}

// P2.1: a bit behind the last one.
func TestValidPadding(t *testing.T) {
	for bits := 1; bits <= 40; bits++ {
		for k := range (bits + 7) / 8 * 8 {
			s := streamOf(strings.Repeat("0", bits))
			s.Data[k/8] = 1 << (7 - k%8)
			if bitio.Valid(s) != (k < bits) {
				t.Errorf("%d bits, and the bit %d is 1: Valid is %t", bits, k, bitio.Valid(s))
			}
		}
	}
}

// P2.2: fields of all widths at all places within a byte.
func TestAppend(t *testing.T) {
	next := random(2)
	for n := 0; n <= 64; n++ {
		full := uint64(all) >> (64 - n)
		for _, value := range []uint64{0, 1, full, full - 1, full/2 + 1, next(), next()} {
			value &= full
			for at := range 18 {
				text := randomText(next, at)
				s, e := bitio.Append(streamOf(text), value, n)
				expect(t, "Append", s, e, text+fieldOf(value, n))
			}
		}
	}
}

// P2.2: the example of the chapter, and a stream without memory.
func TestAppendExample(t *testing.T) {
	s, e := bitio.Append(api.Stream{}, 5, 3)
	if e != api.OK || s.Bits != 3 || !slices.Equal(s.Data, []byte{160}) {
		t.Errorf("Append is %v, %d", s, e)
	}
	s, e = bitio.Append(s, 1, 6)
	if e != api.OK || s.Bits != 9 || !slices.Equal(s.Data, []byte{160, 128}) {
		t.Errorf("Append is %v, %d", s, e)
	}
	s, e = bitio.Append(api.Stream{Data: []byte{}}, 0, 0)
	expect(t, "Append of nothing to nothing", s, e, "")
}

// P2.2: numbers out of range.
func TestAppendRange(t *testing.T) {
	for _, n := range []int{-1, -8, 65, 72, 128, 256, 1 << 32, 1<<32 + 8, math.MinInt, math.MaxInt, math.MinInt + 8} {
		for _, value := range []uint64{0, 1, all} {
			s, e := bitio.Append(streamOf("101"), value, n)
			refuse(t, "Append", s, e, api.ErrRange)
		}
	}
	for n := range 64 {
		for _, value := range []uint64{1 << n, 1<<n + 1, all, 1 << 63} {
			if value>>n == 0 {
				continue
			}
			s, e := bitio.Append(streamOf("101"), value, n)
			refuse(t, "Append", s, e, api.ErrRange)
		}
	}
}

// P2.2: the limit.
func TestAppendLimit(t *testing.T) {
	for at := api.MaxBits - 70; at <= api.MaxBits; at++ {
		text := strings.Repeat("10", api.MaxBits)[:at]
		for n := 0; n <= 64; n++ {
			s, e := bitio.Append(streamOf(text), 1<<n-1, n)
			if at+n > api.MaxBits {
				refuse(t, "Append", s, e, api.ErrLimit)
			} else {
				expect(t, "Append", s, e, text+strings.Repeat("1", n))
			}
		}
	}
}

// P2.2: the order of the errors.
func TestAppendOrder(t *testing.T) {
	for _, s := range invalid() {
		for _, n := range []int{-1, 0, 3, 64, 65} {
			got, e := bitio.Append(s, 4, n)
			refuse(t, "Append to a stream that is not valid", got, e, api.ErrInvalid)
		}
	}
	full := streamOf(strings.Repeat("1", api.MaxBits))
	for n, want := range map[int]api.Errno{-1: api.ErrRange, 2: api.ErrRange, 3: api.ErrLimit, 64: api.ErrLimit, 65: api.ErrRange, math.MaxInt: api.ErrRange} {
		got, e := bitio.Append(full, 4, n)
		refuse(t, "Append to a full stream", got, e, want)
	}
}

// P2.3: fields of all widths at all places.
func TestTake(t *testing.T) {
	for _, text := range texts() {
		s := streamOf(text)
		for n := 0; n <= 64; n++ {
			for at := range 40 {
				want := uint64(0)
				if at+n <= len(text) {
					want = numberOf(text[at : at+n])
				}
				x, e := bitio.Take(s, at, n)
				if x != want || (e == api.OK) != (at+n <= len(text)) || e != api.OK && e != api.ErrShort {
					t.Errorf("Take(%d bits, %d, %d) is %d, %d; it should be %d", len(text), at, n, x, e, want)
				}
			}
		}
	}
}

// P2.3: the last bits of a long stream.
func TestTakeLast(t *testing.T) {
	text := randomText(random(3), api.MaxBits)
	s := streamOf(text)
	for n := 0; n <= 64; n++ {
		for at := api.MaxBits - 70; at <= api.MaxBits-n; at++ {
			if x, e := bitio.Take(s, at, n); x != numberOf(text[at:at+n]) || e != api.OK {
				t.Errorf("Take(%d, %d) is %d, %d", at, n, x, e)
			}
		}
		if x, e := bitio.Take(s, api.MaxBits-n+1, n); x != 0 || e != api.ErrShort {
			t.Errorf("Take(%d, %d) is %d, %d", api.MaxBits-n+1, n, x, e)
		}
	}
}

// P2.3: errors, their order, and huge numbers.
func TestTakeErrors(t *testing.T) {
	for i, c := range []struct {
		at, n int
		want  api.Errno
	}{
		{0, -1, api.ErrRange}, {0, 65, api.ErrRange}, {0, math.MinInt, api.ErrRange}, {0, math.MaxInt, api.ErrRange}, {-1, 1, api.ErrRange}, {-1, 0, api.ErrRange}, {math.MinInt, 64, api.ErrRange}, {-8, 8, api.ErrRange},
		{9, 65, api.ErrRange}, {math.MaxInt, 65, api.ErrRange}, {math.MaxInt, -1, api.ErrRange}, {-1, 10, api.ErrRange}, {-64, 64, api.ErrRange},
		{0, 10, api.ErrShort}, {9, 1, api.ErrShort}, {10, 0, api.ErrShort}, {2, 8, api.ErrShort}, {0, 64, api.ErrShort},
		{math.MaxInt, 0, api.ErrShort}, {math.MaxInt, 1, api.ErrShort}, {math.MaxInt, 64, api.ErrShort}, {math.MaxInt - 63, 64, api.ErrShort}, {math.MaxInt - 10, 11, api.ErrShort}, {1 << 32, 1, api.ErrShort}, {api.MaxBits, 0, api.ErrShort},
	} {
		if x, e := bitio.Take(streamOf("111111111"), c.at, c.n); x != 0 || e != c.want {
			t.Errorf("%d: Take(%d, %d) is %d, %d; it should be %d", i, c.at, c.n, x, e, c.want)
		}
	}
	for _, s := range invalid() {
		for _, at := range []int{-1, 0, math.MaxInt} {
			for _, n := range []int{-1, 0, 1, 65} {
				if x, e := bitio.Take(s, at, n); x != 0 || e != api.ErrInvalid {
					t.Errorf("Take from a stream that is not valid is %d, %d", x, e)
				}
			}
		}
	}
}

// P2.4: Join.
func TestJoin(t *testing.T) {
	for _, a := range texts() {
		for _, b := range texts() {
			s, e := bitio.Join(streamOf(a), streamOf(b))
			if len(a)+len(b) > api.MaxBits {
				refuse(t, "Join", s, e, api.ErrLimit)
			} else {
				expect(t, "Join", s, e, a+b)
			}
		}
	}
}

// P2.4: the limit of Join.
func TestJoinLimit(t *testing.T) {
	next := random(4)
	for _, n := range []int{0, 1, 7, 8, 9, 4095, 4096, 4097, api.MaxBits - 1, api.MaxBits} {
		a, b := randomText(next, n), randomText(next, api.MaxBits-n)
		s, e := bitio.Join(streamOf(a), streamOf(b))
		expect(t, "Join", s, e, a+b)
		if n > 0 {
			s, e = bitio.Join(streamOf(a), streamOf(b+"1"))
			refuse(t, "Join", s, e, api.ErrLimit)
		}
	}
}

// P2.4: Join of streams that are not valid, before the limit.
func TestJoinErrors(t *testing.T) {
	full := streamOf(strings.Repeat("1", api.MaxBits))
	for _, bad := range invalid() {
		for _, good := range []api.Stream{{}, streamOf("1"), full} {
			s, e := bitio.Join(bad, good)
			refuse(t, "Join with a wrong first stream", s, e, api.ErrInvalid)
			s, e = bitio.Join(good, bad)
			refuse(t, "Join with a wrong second stream", s, e, api.ErrInvalid)
		}
		s, e := bitio.Join(bad, bad)
		refuse(t, "Join with wrong streams", s, e, api.ErrInvalid)
	}
}

// P2.4: Slice.
func TestSlice(t *testing.T) {
	for _, text := range texts() {
		s := streamOf(text)
		for from := -2; from < 40; from++ {
			for to := -2; to < 40; to++ {
				got, e := bitio.Slice(s, from, to)
				if from < 0 || from > to || to > len(text) {
					refuse(t, "Slice", got, e, api.ErrRange)
				} else {
					expect(t, "Slice", got, e, text[from:to])
				}
			}
		}
	}
}

// P2.4: Slice of a long stream, and huge numbers.
func TestSliceLong(t *testing.T) {
	text := randomText(random(5), api.MaxBits)
	s := streamOf(text)
	for from := 0; from <= api.MaxBits; from += 117 {
		for to := from; to <= api.MaxBits; to += 311 {
			got, e := bitio.Slice(s, from, to)
			expect(t, "Slice", got, e, text[from:to])
		}
		got, e := bitio.Slice(s, from, api.MaxBits)
		expect(t, "Slice up to the end", got, e, text[from:])
	}
	got, e := bitio.Slice(s, api.MaxBits, api.MaxBits)
	expect(t, "Slice at the end", got, e, "")
	for _, c := range [][2]int{{0, api.MaxBits + 1}, {api.MaxBits + 1, api.MaxBits + 1}, {1, 0}, {math.MinInt, 0}, {math.MinInt, math.MaxInt}, {0, math.MaxInt}, {math.MaxInt, math.MaxInt}, {math.MaxInt, math.MinInt}, {0, math.MinInt}, {-1, 8}, {-8, -1}, {-1, -1}, {math.MaxInt, 0}} {
		got, e := bitio.Slice(s, c[0], c[1])
		refuse(t, "Slice", got, e, api.ErrRange)
	}
}

// P2.4: Slice of a stream that is not valid, before the range.
func TestSliceErrors(t *testing.T) {
	for _, s := range invalid() {
		for _, c := range [][2]int{{0, 0}, {-1, 0}, {1, 0}, {0, math.MaxInt}, {0, 1}} {
			got, e := bitio.Slice(s, c[0], c[1])
			refuse(t, "Slice of a stream that is not valid", got, e, api.ErrInvalid)
		}
	}
}

// P2.4: Align.
func TestAlign(t *testing.T) {
	for _, text := range texts() {
		want := text
		for len(want)%8 != 0 {
			want += "0"
		}
		s, e := bitio.Align(streamOf(text))
		expect(t, "Align", s, e, want)
	}
	for n := api.MaxBits - 9; n <= api.MaxBits; n++ {
		want := strings.Repeat("1", n) + strings.Repeat("0", (api.MaxBits-n)%8)
		s, e := bitio.Align(streamOf(strings.Repeat("1", n)))
		expect(t, "Align", s, e, want)
	}
	for _, s := range invalid() {
		got, e := bitio.Align(s)
		refuse(t, "Align of a stream that is not valid", got, e, api.ErrInvalid)
	}
}

// checkOf returns the check number of a text, by its definition.
func checkOf(text string) uint64 {
	register := uint64(65535)
	for _, c := range text {
		left := register / 32768
		register = register * 2 % 65536
		if left != uint64(c-'0') {
			register ^= 4129
		}
	}
	return register
}

// P2.5: the check number.
func TestCheck(t *testing.T) {
	for _, text := range texts() {
		if x, e := bitio.Check(streamOf(text)); x != checkOf(text) || e != api.OK {
			t.Errorf("the check number of %d bits is %d, %d; it should be %d", len(text), x, e, checkOf(text))
		}
	}
	next := random(6)
	for n := range 300 {
		text := randomText(next, n)
		if x, e := bitio.Check(streamOf(text)); x != checkOf(text) || e != api.OK {
			t.Errorf("the check number of %d bits is %d, %d; it should be %d", n, x, e, checkOf(text))
		}
	}
}

// P2.5: known check numbers, and streams that are not valid.
func TestCheckKnown(t *testing.T) {
	for i, c := range []struct {
		s    api.Stream
		want uint64
	}{
		{api.Stream{}, 65535}, {api.Stream{Data: []byte{}}, 65535}, {api.Stream{Data: []byte{128}, Bits: 1}, 65534}, {api.Stream{Data: []byte{0}, Bits: 1}, 61407},
		// The known check number of this text, of the same kind.
		{api.Stream{Data: []byte("123456789"), Bits: 72}, 0x29b1},
	} {
		if x, e := bitio.Check(c.s); x != c.want || e != api.OK {
			t.Errorf("%d: the check number is %d, %d; it should be %d", i, x, e, c.want)
		}
	}
	for _, s := range invalid() {
		if x, e := bitio.Check(s); x != 0 || e != api.ErrInvalid {
			t.Errorf("the check number of a stream that is not valid is %d, %d", x, e)
		}
	}
}

// P2.6: what was appended is taken, and other bits do not change.
func TestAppendAndTake(t *testing.T) {
	next := random(7)
	for range 60 {
		var s api.Stream
		var widths []int
		var values []uint64
		for range 40 {
			n := int(next() >> 20 % 65)
			value := next() & (all >> (64 - n))
			longer, e := bitio.Append(s, value, n)
			if e != api.OK {
				t.Fatalf("Append is %d", e)
			}
			s, widths, values = longer, append(widths, n), append(values, value)
			at := 0
			for i, n := range widths {
				if x, e := bitio.Take(s, at, n); x != values[i] || e != api.OK {
					t.Fatalf("the field %d of %d is %d, %d", i, len(widths), x, e)
				}
				at += n
			}
			if at != s.Bits {
				t.Fatalf("%d bits instead of %d", s.Bits, at)
			}
		}
	}
}

// P2.6: Join is associative, and Slice takes it apart.
func TestJoinAssociative(t *testing.T) {
	next := random(8)
	for range 2000 {
		a := streamOf(randomText(next, int(next()>>20%40)))
		b := streamOf(randomText(next, int(next()>>20%40)))
		c := streamOf(randomText(next, int(next()>>20%40)))
		ab, _ := bitio.Join(a, b)
		left, _ := bitio.Join(ab, c)
		bc, _ := bitio.Join(b, c)
		right, _ := bitio.Join(a, bc)
		if !same(left, right) || textOf(left) != textOf(a)+textOf(b)+textOf(c) {
			t.Errorf("Join is %v and %v", left, right)
		}
		middle, _ := bitio.Slice(left, a.Bits, a.Bits+b.Bits)
		if !same(middle, b) {
			t.Errorf("Slice of Join is %v instead of %v", middle, b)
		}
	}
}

// flipped returns a stream with some bits changed.
func flipped(s api.Stream, bits ...int) api.Stream {
	data := slices.Clone(s.Data)
	for _, k := range bits {
		data[k/8] ^= 1 << (7 - k%8)
	}
	return api.Stream{Data: data, Bits: s.Bits}
}

// P2.6: one, two or three bits change the check number, in streams that are not long.
func TestCheckOfFewBits(t *testing.T) {
	s := streamOf(randomText(random(9), 53))
	want, _ := bitio.Check(s)
	for i := range s.Bits {
		for j := i; j < s.Bits; j++ {
			for k := j; k < s.Bits; k++ {
				// Equal places give one or three bits: a bit changed twice is the old one.
				if x, e := bitio.Check(flipped(s, i, j, k)); x == want || e != api.OK {
					t.Fatalf("the bits %d, %d and %d do not change the check number", i, j, k)
				}
			}
			if x, e := bitio.Check(flipped(s, i, j)); i != j && (x == want || e != api.OK) {
				t.Fatalf("the bits %d and %d do not change the check number", i, j)
			}
		}
	}
}

// P2.6: one, two or three bits change the check number, in the longest streams. How a bit changes it does not depend on the others.
func TestCheckOfFewBitsInLong(t *testing.T) {
	s := streamOf(randomText(random(10), api.MaxBits))
	want, _ := bitio.Check(s)
	changes := make([]uint64, s.Bits)
	known := make([]bool, 65536)
	for i := range s.Bits {
		x, _ := bitio.Check(flipped(s, i))
		changes[i] = x ^ want
		if changes[i] == 0 || known[changes[i]] {
			t.Fatalf("the bit %d changes nothing, or as another one does", i)
		}
		known[changes[i]] = true
	}
	for i, x := range changes {
		for _, y := range changes[:i] {
			if known[x^y] {
				t.Fatalf("two bits, one of them %d, change as a third one does", i)
			}
		}
	}
	next := random(11)
	for range 500 {
		i, j, k := int(next()>>20%api.MaxBits), int(next()>>20%api.MaxBits), int(next()>>20%api.MaxBits)
		if x, _ := bitio.Check(flipped(s, i, j, k)); x != want^changes[i]^changes[j]^changes[k] {
			t.Fatalf("the bits %d, %d and %d do not change the check number as each of them does", i, j, k)
		}
	}
}

// P2.6: changes within 16 bits that follow one another change the check number.
func TestCheckOfBurst(t *testing.T) {
	s := streamOf(randomText(random(12), 45))
	want, _ := bitio.Check(s)
	for _, at := range []int{0, 1, 13, 29} {
		for pattern := 1; pattern < 65536; pattern++ {
			var bits []int
			for k := range 16 {
				if pattern>>k&1 == 1 {
					bits = append(bits, at+k)
				}
			}
			if x, _ := bitio.Check(flipped(s, bits...)); x == want {
				t.Fatalf("the pattern %d at %d does not change the check number", pattern, at)
			}
		}
	}
}

// spare returns the same stream in memory with further bytes behind it, and these bytes.
func spare(s api.Stream) (api.Stream, []byte) {
	memory := slices.Concat(s.Data, []byte{7, 7, 7, 7, 7, 7, 7, 7, 7, 7})
	return api.Stream{Data: memory[:len(s.Data)], Bits: s.Bits}, memory
}

// P2.2 and P2.4 with R5: arguments are not modified, and results share no memory with them.
func TestMemory(t *testing.T) {
	for i, f := range []func(api.Stream) (api.Stream, api.Errno){
		func(s api.Stream) (api.Stream, api.Errno) { return bitio.Append(s, 0, 0) },
		func(s api.Stream) (api.Stream, api.Errno) { return bitio.Append(s, 5, 3) },
		func(s api.Stream) (api.Stream, api.Errno) { return bitio.Append(s, all, 64) },
		func(s api.Stream) (api.Stream, api.Errno) { return bitio.Join(s, s) },
		func(s api.Stream) (api.Stream, api.Errno) { return bitio.Join(s, api.Stream{}) },
		func(s api.Stream) (api.Stream, api.Errno) { return bitio.Join(api.Stream{}, s) },
		func(s api.Stream) (api.Stream, api.Errno) { return bitio.Slice(s, 0, s.Bits) },
		func(s api.Stream) (api.Stream, api.Errno) { return bitio.Slice(s, 0, s.Bits/16*8) },
		func(s api.Stream) (api.Stream, api.Errno) { return bitio.Slice(s, s.Bits/16*8, s.Bits) },
		func(s api.Stream) (api.Stream, api.Errno) { return bitio.Align(s) },
		func(s api.Stream) (api.Stream, api.Errno) {
			_, e := bitio.Take(s, 0, 8)
			return api.Stream{}, e
		},
		func(s api.Stream) (api.Stream, api.Errno) {
			_, e := bitio.Check(s)
			return api.Stream{}, e
		},
	} {
		for _, n := range []int{16, 19, 24} {
			s, memory := spare(streamOf(strings.Repeat("10", n)[:n]))
			before := slices.Clone(memory)
			result, e := f(s)
			if e != api.OK || !slices.Equal(memory, before) {
				t.Errorf("%d: an argument was modified: %v, %d", i, memory, e)
			}
			whole := result.Data[:cap(result.Data)]
			for k := range whole {
				whole[k] = 99
			}
			if !slices.Equal(memory, before) {
				t.Errorf("%d: the result shares memory with an argument", i)
			}
		}
	}
}
