package packet_test

import (
	"math"
	"slices"
	"strconv"
	"strings"
	"testing"

	"bitcast/api"
	"bitcast/packet"
)

const all = 1<<64 - 1

var lengths = []int{8, 16, 32, 64}

// random returns a fixed sequence of numbers, so that each run of the tests is the same.
func random(seed uint64) func(n int) int {
	x := seed
	return func(n int) int {
		x = x*6364136223846793005 + 1442695040888963407
		return int((x ^ x>>29) >> 20 % uint64(n))
	}
}

// randomText returns a payload of n bytes, of all values.
func randomText(next func(int) int, n int) string {
	l := make([]byte, n)
	for i := range l {
		l[i] = byte(next(256))
	}
	return string(l)
}

// randomPacket returns a valid packet with this length and this many bytes of payload.
func randomPacket(next func(int) int, length, payload int) api.Packet {
	bits := uint64(next(1<<32))<<32 | uint64(next(1<<32))
	return api.Packet{
		Mode: 1 + next(3), Subdomain: next(8), Set: next(32), Length: length, TTL: next(64), Entropy: next(1024), Ingress: next(257), Proto: next(8),
		Bits: bits >> (64 - length), Payload: randomText(next, payload),
	}
}

// least returns the packet of the chapter's example, with any length.
func least(length int) api.Packet { return api.Packet{Mode: 1, Length: length} }

// greatest returns the packet with the greatest valid values.
func greatest(length int) api.Packet {
	return api.Packet{
		Mode: 3, Subdomain: 7, Set: 31, Length: length, TTL: 63, Entropy: 1023, Ingress: 256, Proto: 7,
		Bits: all >> (64 - length), Payload: strings.Repeat("\xff", 64),
	}
}

// valids returns valid packets of all lengths, with ends and with mixed values.
func valids() []api.Packet {
	var l []api.Packet
	next := random(1)
	for _, length := range lengths {
		l = append(l, least(length), greatest(length))
		for n := range api.MaxPayload + 1 {
			l = append(l, randomPacket(next, length, n))
		}
	}
	return l
}

// places returns the numbers of a packet with their limits, Length left out.
func places(p *api.Packet) []limited {
	return []limited{
		{"Mode", &p.Mode, 1, 3}, {"Subdomain", &p.Subdomain, 0, 7}, {"Set", &p.Set, 0, 31}, {"TTL", &p.TTL, 0, 63},
		{"Entropy", &p.Entropy, 0, 1023}, {"Ingress", &p.Ingress, 0, 256}, {"Proto", &p.Proto, 0, 7},
	}
}

type limited struct {
	name            string
	place           *int
	least, greatest int
}

// invalids returns packets that are not valid, each for another reason.
func invalids() []api.Packet {
	l := []api.Packet{{}}
	for _, base := range []func(int) api.Packet{least, greatest} {
		for i := range places(&api.Packet{}) {
			p := base(16)
			c := places(&p)[i]
			for _, x := range []int{c.least - 1, c.greatest + 1, math.MinInt, math.MaxInt, -1 << 32, 1<<32 + c.least} {
				*c.place = x
				l = append(l, p)
			}
		}
		for _, n := range []int{0, 1, 7, 9, 15, 17, 24, 31, 33, 63, 65, 128, -8, -64, 256 + 8, 1<<32 + 8, math.MinInt, math.MaxInt} {
			p := base(8)
			p.Length = n
			l = append(l, p)
			// No bits are valid for a length that is not.
			p.Bits = 0
			l = append(l, p)
		}
		for _, length := range lengths {
			for k := length; k < 64; k++ {
				p := base(length)
				p.Bits |= 1 << k
				l = append(l, p)
			}
			for _, n := range []int{65, 66, 127, 128, 192, 256, 320, 100000} {
				p := base(length)
				p.Payload = strings.Repeat("x", n)
				l = append(l, p)
			}
		}
	}
	return l
}

// digits returns the n lowest bits of a number, the most significant one first.
func digits(value uint64, n int) string {
	s := strconv.FormatUint(value, 2)
	return strings.Repeat("0", max(n-len(s), 0)) + s[max(len(s)-n, 0):]
}

// number returns the number with these bits.
func number(text string) int {
	x, _ := strconv.ParseUint(text, 2, 64)
	return int(x)
}

// checkOf returns the check number of a text of bits, by its definition.
func checkOf(text string) uint64 {
	register := uint64(65535)
	for _, c := range text {
		left := register / 32768
		register = register * 2 % 65536
		if left != uint64(c-'0') {
			register ^= 4129
		}
	}
	return register
}

// filled returns a text of bits with as few zeros as make it whole bytes.
func filled(text string) string { return text + strings.Repeat("0", (8-len(text)%8)%8) }

// bytesOf returns the bytes of a text of whole bytes.
func bytesOf(text string) []byte {
	var l []byte
	for i := 0; i < len(text); i += 8 {
		l = append(l, byte(number(text[i:i+8])))
	}
	return l
}

// textOf returns the bits of bytes.
func textOf(l []byte) string {
	var b strings.Builder
	for _, x := range l {
		b.WriteString(digits(uint64(x), 8))
	}
	return b.String()
}

// headerOf returns the bits of an encoding before Bits, for any values that fit their fields.
func headerOf(version, code, count int, p api.Packet) string {
	return digits(uint64(version), 2) + digits(uint64(p.Mode), 2) + digits(uint64(p.Subdomain), 3) + digits(uint64(p.Set), 5) +
		digits(uint64(code), 2) + digits(uint64(p.TTL), 6) + digits(uint64(p.Entropy), 10) + digits(uint64(p.Ingress), 9) +
		digits(uint64(p.Proto), 3) + digits(uint64(count), 7)
}

// coveredBy returns the bits of an encoding before the check number.
func coveredBy(p api.Packet) string {
	text := headerOf(2, slices.Index(lengths, p.Length), len(p.Payload), p) + digits(p.Bits, p.Length)
	return text + textOf([]byte(p.Payload))
}

// checked returns the bytes for bits of an encoding before the check number.
func checked(text string) []byte { return bytesOf(filled(text + digits(checkOf(text), 16))) }

// encoded returns the encoding of a valid packet, by its definition.
func encoded(p api.Packet) []byte { return checked(coveredBy(p)) }

// decoded returns the packet with an encoding, by the definition and the order of the errors.
func decoded(b []byte) (api.Packet, api.Errno) {
	text := textOf(b)
	if len(text) < 49 {
		return api.Packet{}, api.ErrShort
	}
	rest := text
	take := func(n int) int {
		x := number(rest[:n])
		rest = rest[n:]
		return x
	}
	version := take(2)
	p := api.Packet{Mode: take(2), Subdomain: take(3), Set: take(5), Length: lengths[take(2)], TTL: take(6), Entropy: take(10), Ingress: take(9), Proto: take(3)}
	count := take(7)
	switch {
	case version != 2:
		return api.Packet{}, api.ErrVersion
	case p.Mode == 0:
		return api.Packet{}, api.ErrInvalid
	case p.Ingress > 256 || count > 64:
		return api.Packet{}, api.ErrRange
	case len(rest) < len(filled(strings.Repeat("0", 49+p.Length+8*count+16)))-49:
		return api.Packet{}, api.ErrShort
	}
	p.Bits = uint64(take(p.Length))
	p.Payload = string(bytesOf(rest[:8*count]))
	rest = rest[8*count:]
	covered := text[:len(text)-len(rest)]
	check := uint64(take(16))
	padding := take(len(rest) % 8)
	switch {
	case check != checkOf(covered):
		return api.Packet{}, api.ErrCheck
	case padding != 0:
		return api.Packet{}, api.ErrPadding
	case rest != "":
		return api.Packet{}, api.ErrLong
	}
	return p, api.OK
}

// refuse expects an error of Decode, and no packet.
func refuse(t *testing.T, what string, b []byte, want api.Errno) {
	t.Helper()
	if p, e := packet.Decode(b); p != (api.Packet{}) || e != want {
		t.Errorf("Decode of %s is %v, %d; it should be the error %d", what, p, e, want)
	}
}

// P3.1: Valid, for each number up to its ends.
func TestValid(t *testing.T) {
	for _, p := range valids() {
		if !packet.Valid(p) {
			t.Errorf("the packet %v should be valid", p)
		}
		for i := range places(&p) {
			q := p
			c := places(&q)[i]
			for x := c.least - 3; x <= c.greatest+3; x++ {
				*c.place = x
				if got := packet.Valid(q); got != (x >= c.least && x <= c.greatest) {
					t.Fatalf("Valid with %s %d is %t", c.name, x, got)
				}
			}
		}
	}
	for _, p := range invalids() {
		if packet.Valid(p) {
			t.Errorf("the packet %v should not be valid", p)
		}
	}
}

// P3.1: Valid, for lengths, bits and payloads.
func TestValidParts(t *testing.T) {
	for n := -70; n <= 140; n++ {
		if got := packet.Valid(least(n)); got != slices.Contains(lengths, n) {
			t.Errorf("Valid with the length %d is %t", n, got)
		}
	}
	for _, length := range lengths {
		p := least(length)
		for k := range 64 {
			p.Bits = 1 << k
			if got := packet.Valid(p); got != (k < length) {
				t.Errorf("Valid with the length %d and the bit %d is %t", length, k, got)
			}
		}
		p.Bits = 0
		for n := range 200 {
			p.Payload = strings.Repeat("\x00", n)
			if got := packet.Valid(p); got != (n <= 64) {
				t.Errorf("Valid with %d bytes of payload is %t", n, got)
			}
		}
		// Bytes are counted, not characters: these have 64 and 66.
		p.Payload = strings.Repeat("\u00e4", 32)
		q := p
		q.Payload += "\u00e4"
		if !packet.Valid(p) || packet.Valid(q) {
			t.Error("Valid does not count the bytes of the payload")
		}
	}
}

// P3.1: Size.
func TestSize(t *testing.T) {
	for _, p := range valids() {
		if got, want := packet.Size(p), len(encoded(p)); got != want {
			t.Errorf("Size with the length %d and %d bytes of payload is %d; it should be %d", p.Length, len(p.Payload), got, want)
		}
	}
	for length, want := range map[int][2]int{8: {10, 74}, 16: {11, 75}, 32: {13, 77}, 64: {17, 81}} {
		if a, b := packet.Size(least(length)), packet.Size(greatest(length)); a != want[0] || b != want[1] {
			t.Errorf("Size with the length %d is %d and %d", length, a, b)
		}
	}
	for _, p := range invalids() {
		if got := packet.Size(p); got != 0 {
			t.Errorf("Size of the packet %v, which is not valid, is %d", p, got)
		}
	}
}

// P3.2: encodings written by hand, the first one that of the chapter's example.
func TestEncodeKnown(t *testing.T) {
	b, e := packet.Encode(least(8))
	if len(b) != 10 || b[0] != 144 || e != api.OK {
		t.Errorf("Encode of the example is %v, %d", b, e)
	}
	for i, c := range []struct {
		p    api.Packet
		text string
	}{
		{least(8), "10 01 000 00000 00 000000 0000000000 000000000 000 0000000 00000000"},
		{greatest(16), "10 11 111 11111 01 111111 1111111111 100000000 111 1000000 1111111111111111" + strings.Repeat("11111111", 64)},
		{
			api.Packet{Mode: 2, Subdomain: 5, Set: 18, Length: 32, TTL: 33, Entropy: 513, Ingress: 129, Proto: 6, Bits: 0x80000005, Payload: "a\x80"},
			"10 10 101 10010 10 100001 1000000001 010000001 110 0000010 10000000000000000000000000000101 01100001 10000000",
		},
		{
			api.Packet{Mode: 3, Subdomain: 1, Set: 1, Length: 64, TTL: 1, Entropy: 1, Ingress: 1, Proto: 1, Bits: 1<<63 + 2, Payload: "\x01"},
			"10 11 001 00001 11 000001 0000000001 000000001 001 0000001 10000000000000000000000000000000 00000000000000000000000000000010 00000001",
		},
	} {
		b, e := packet.Encode(c.p)
		if want := checked(strings.ReplaceAll(c.text, " ", "")); !slices.Equal(b, want) || e != api.OK {
			t.Errorf("%d: Encode is %v, %d; it should be %v", i, b, e, want)
		}
	}
}

// P3.2: Encode.
func TestEncode(t *testing.T) {
	for _, p := range valids() {
		if b, e := packet.Encode(p); !slices.Equal(b, encoded(p)) || e != api.OK {
			t.Errorf("Encode of %v is %v, %d; it should be %v", p, b, e, encoded(p))
		}
	}
	for _, p := range invalids() {
		if b, e := packet.Encode(p); len(b) != 0 || e != api.ErrInvalid {
			t.Errorf("Encode of the packet %v, which is not valid, is %v, %d", p, b, e)
		}
	}
}

// P3.2: each number with all its values, and each single bit.
func TestEncodeEach(t *testing.T) {
	for i, c := range places(&api.Packet{}) {
		for x := c.least; x <= c.greatest; x++ {
			p := least(lengths[x%4])
			*places(&p)[i].place = x
			if b, e := packet.Encode(p); !slices.Equal(b, encoded(p)) || e != api.OK {
				t.Errorf("Encode with %s %d is %v, %d", c.name, x, b, e)
			}
		}
	}
	for _, length := range lengths {
		for k := range length {
			p := least(length)
			p.Bits = 1 << k
			if b, e := packet.Encode(p); !slices.Equal(b, encoded(p)) || e != api.OK {
				t.Errorf("Encode with the length %d and the bit %d is %v, %d", length, k, b, e)
			}
		}
	}
}

// P3.3: Decode of encodings.
func TestDecode(t *testing.T) {
	for _, p := range valids() {
		if got, e := packet.Decode(encoded(p)); got != p || e != api.OK {
			t.Errorf("Decode is %v, %d; it should be %v", got, e, p)
		}
	}
}

// P3.3: each error alone.
func TestDecodeErrors(t *testing.T) {
	for _, length := range lengths {
		code := slices.Index(lengths, length)
		for _, p := range []api.Packet{least(length), greatest(length)} {
			body := coveredBy(p)[49:]
			for version := range 4 {
				if version != 2 {
					refuse(t, "another version", checked(headerOf(version, code, len(p.Payload), p)+body), api.ErrVersion)
				}
			}
			q := p
			q.Mode = 0
			refuse(t, "the mode 0", checked(headerOf(2, code, len(p.Payload), q)+body), api.ErrInvalid)
			for ingress := 257; ingress < 512; ingress++ {
				q = p
				q.Ingress = ingress
				refuse(t, "a great ingress", checked(headerOf(2, code, len(p.Payload), q)+body), api.ErrRange)
			}
			for count := 65; count < 128; count++ {
				text := headerOf(2, code, count, p) + digits(p.Bits, length) + strings.Repeat("0", 8*count)
				refuse(t, "a long payload", checked(text), api.ErrRange)
			}
			refuse(t, "an encoding and a further byte", append(encoded(p), 0), api.ErrLong)
			refuse(t, "an encoding and many further bytes", append(encoded(p), make([]byte, 70000)...), api.ErrLong)
			refuse(t, "an encoding twice", append(encoded(p), encoded(p)...), api.ErrLong)
		}
	}
}

// P3.3: bytes that end too early, at all places.
func TestDecodeShort(t *testing.T) {
	refuse(t, "no bytes", nil, api.ErrShort)
	refuse(t, "no bytes", []byte{}, api.ErrShort)
	for _, p := range valids() {
		b := encoded(p)
		for n := range b {
			refuse(t, "an encoding without its end", b[:n], api.ErrShort)
		}
	}
}

// P3.3: all other check numbers, and all other last bits.
func TestDecodeEnd(t *testing.T) {
	for _, p := range valids() {
		text := coveredBy(p)
		check := digits(checkOf(text), 16)
		for k := range 16 {
			other := check[:k] + string('0'+'1'-check[k]) + check[k+1:]
			refuse(t, "a wrong check number", bytesOf(filled(text+other)), api.ErrCheck)
		}
		whole := len(filled(text + check))
		room := whole - len(text) - 16
		// All lengths are whole bytes, so each encoding ends with the bits that 49 leaves.
		if room != 7 {
			t.Fatalf("%d bits behind the check number", room)
		}
		for x := 1; x < 1<<room; x++ {
			refuse(t, "bits behind the check number", bytesOf(text+check+digits(uint64(x), room)), api.ErrPadding)
		}
	}
	text := coveredBy(least(8))
	for x := range uint64(65536) {
		if x != checkOf(text) {
			refuse(t, "a wrong check number", bytesOf(filled(text+digits(x, 16))), api.ErrCheck)
		}
	}
}

// P3.3: the order of the errors. Each case has all the mistakes of those that follow.
func TestDecodeOrder(t *testing.T) {
	for _, length := range lengths {
		code := slices.Index(lengths, length)
		bad := api.Packet{Ingress: 257, Mode: 0}
		refuse(t, "bytes that are too few for a version", bytesOf(headerOf(1, code, 65, bad)[:48]), api.ErrShort)
		refuse(t, "another version", bytesOf(filled(headerOf(1, code, 65, bad))), api.ErrVersion)
		refuse(t, "the mode 0", bytesOf(filled(headerOf(2, code, 65, bad))), api.ErrInvalid)
		bad.Mode = 1
		refuse(t, "a great ingress", bytesOf(filled(headerOf(2, code, 3, bad))), api.ErrRange)
		bad.Ingress = 256
		refuse(t, "a long payload", bytesOf(filled(headerOf(2, code, 65, bad))), api.ErrRange)
		text := headerOf(2, code, 3, bad) + digits(0, length) + strings.Repeat("1", 24)
		wrong := digits(checkOf(text)^1, 16) + "1111111"
		short := bytesOf(text + wrong)
		refuse(t, "bytes that are too few for a check number", short[:len(short)-1], api.ErrShort)
		refuse(t, "a wrong check number", append(short, 1), api.ErrCheck)
		refuse(t, "bits behind the check number", append(bytesOf(text+digits(checkOf(text), 16)+"0000001"), 1), api.ErrPadding)
		refuse(t, "a further byte", append(checked(text), 1), api.ErrLong)
	}
}

// P3.3: any bytes, most of them nearly an encoding, against the definition.
func TestDecodeAny(t *testing.T) {
	next := random(2)
	seen := map[api.Errno]int{}
	for range 40000 {
		b := encoded(randomPacket(next, lengths[next(4)], next(65)))
		if next(4) == 0 {
			// Headers of all kinds, with a check number that is right where one can be.
			text := "10" + digits(uint64(next(1<<47)), 47)
			count := number(text[42:49])
			b = checked(text + strings.Repeat("01", lengths[number(text[12:14])]/2+4*count))
		}
		for range next(3) {
			b[next(len(b))] ^= 1 << next(8)
		}
		switch next(4) {
		case 0:
			b = b[:next(len(b)+1)]
		case 1:
			b = append(b, randomText(next, next(5))...)
		}
		want, code := decoded(b)
		seen[code]++
		if p, e := packet.Decode(b); p != want || e != code {
			t.Fatalf("Decode of %v is %v, %d; it should be %v, %d", b, p, e, want, code)
		}
	}
	for _, e := range []api.Errno{api.OK, api.ErrShort, api.ErrVersion, api.ErrInvalid, api.ErrRange, api.ErrCheck, api.ErrPadding, api.ErrLong} {
		if seen[e] < 100 {
			t.Errorf("the result %d came up %d times only", e, seen[e])
		}
	}
}

// P3.4: Plane.
func TestPlane(t *testing.T) {
	for x := range 1024 {
		p := least(8)
		p.Entropy = x
		if got := packet.Plane(p); got != x%8 {
			t.Errorf("Plane with the entropy %d is %d", x, got)
		}
	}
	for _, p := range invalids() {
		if got := packet.Plane(p); got != 0 {
			t.Errorf("Plane of the packet %v, which is not valid, is %d", p, got)
		}
	}
}

// P3.4: Only.
func TestOnly(t *testing.T) {
	far := []int{math.MinInt, math.MinInt + 3, -1 << 32, 1 << 32, 256, 1<<32 + 1, math.MaxInt}
	for _, p := range valids() {
		for bit := -70; bit < 140; bit++ {
			want := api.Packet{}
			if bit >= 0 && bit < p.Length && p.Bits>>bit%2 == 1 {
				want = p
				want.Bits = 1 << bit
			}
			if got := packet.Only(p, bit); got != want {
				t.Fatalf("Only with the bit %d of %v is %v", bit, p, got)
			}
		}
		for _, bit := range far {
			if got := packet.Only(p, bit); got != (api.Packet{}) {
				t.Fatalf("Only with the bit %d of %v is %v", bit, p, got)
			}
		}
	}
	for _, p := range invalids() {
		for bit := range 64 {
			if got := packet.Only(p, bit); got != (api.Packet{}) {
				t.Fatalf("Only with the bit %d of the packet %v, which is not valid, is %v", bit, p, got)
			}
		}
	}
}

// maskList returns masks with few, with many and with mixed bits.
func maskList(next func(int) int) []uint64 {
	l := []uint64{0, 1, 2, 128, 255, 256, 1 << 63, all - 1, all - 255, all}
	for range 10 {
		l = append(l, uint64(next(1<<32))<<32|uint64(next(1<<32)))
	}
	return l
}

// P3.4: Masked.
func TestMasked(t *testing.T) {
	next := random(3)
	for _, p := range valids() {
		for _, m := range maskList(next) {
			for _, ttl := range []int{0, 1, 2, 63} {
				p.TTL = ttl
				want := api.Packet{}
				if ttl > 0 && p.Bits&m != 0 {
					want = p
					want.Bits, want.TTL = p.Bits&m, ttl-1
				}
				if got, ok := packet.Masked(p, m); got != want || ok != (want.Length != 0) {
					t.Fatalf("Masked of %v by %d is %v, %t", p, m, got, ok)
				}
			}
		}
	}
	for _, p := range invalids() {
		for _, m := range []uint64{0, 1, all} {
			if got, ok := packet.Masked(p, m); got != (api.Packet{}) || ok {
				t.Fatalf("Masked of the packet %v, which is not valid, is %v, %t", p, got, ok)
			}
		}
	}
}

// P3.5: Decode undoes Encode, and Encode undoes Decode.
func TestThereAndBack(t *testing.T) {
	next := random(4)
	for range 5000 {
		p := randomPacket(next, lengths[next(4)], next(65))
		b, _ := packet.Encode(p)
		q, e := packet.Decode(b)
		again, f := packet.Encode(q)
		if q != p || e != api.OK || !slices.Equal(again, b) || f != api.OK || packet.Size(p) != len(b) {
			t.Fatalf("Encode and Decode change %v to %v", p, q)
		}
	}
}

// kept says whether a bit of an encoding belongs to the version, the length code or the number of bytes of Payload.
func kept(k int) bool { return k < 2 || k == 12 || k == 13 || k >= 42 && k < 49 }

// flipped returns bytes with some bits changed.
func flipped(b []byte, bits ...int) []byte {
	l := slices.Clone(b)
	for _, k := range bits {
		l[k/8] ^= 1 << (7 - k%8)
	}
	return l
}

// P3.5: all changes of up to three bits of the shortest encoding.
func TestThreeBits(t *testing.T) {
	p := randomPacket(random(5), 8, 0)
	b := encoded(p)
	for i := range 8 * len(b) {
		for j := range i + 1 {
			for k := range j + 1 {
				// Equal places give one or three bits: a bit changed twice is the old one.
				if kept(i) || kept(j) || kept(k) {
					continue
				}
				if got, e := packet.Decode(flipped(b, i, j, k)); e == api.OK || got != (api.Packet{}) {
					t.Fatalf("Decode with the bits %d, %d and %d changed is %v, %d", i, j, k, got, e)
				}
			}
			if got, e := packet.Decode(flipped(b, i, j)); i != j && !kept(i) && !kept(j) && (e == api.OK || got != (api.Packet{})) {
				t.Fatalf("Decode with the bits %d and %d changed is %v, %d", i, j, got, e)
			}
		}
	}
}

// P3.5: changes of up to three bits of longer encodings.
func TestThreeBitsOfLong(t *testing.T) {
	next := random(6)
	for _, p := range valids() {
		b := encoded(p)
		for range 200 {
			i, j, k := next(8*len(b)), next(8*len(b)), next(8*len(b))
			if kept(i) || kept(j) || kept(k) {
				continue
			}
			if got, e := packet.Decode(flipped(b, i, j, k)); e == api.OK || got != (api.Packet{}) {
				t.Fatalf("Decode with the bits %d, %d and %d changed is %v, %d", i, j, k, got, e)
			}
			if got, e := packet.Decode(flipped(b, i, j)); i != j && (e == api.OK || got != (api.Packet{})) {
				t.Fatalf("Decode with the bits %d and %d changed is %v, %d", i, j, got, e)
			}
		}
	}
}

// P3.5: masks without a common bit give packets without a common bit.
func TestMaskedApart(t *testing.T) {
	next := random(7)
	for _, p := range valids() {
		masks := maskList(next)
		for i, m := range masks {
			a, _ := packet.Masked(p, m)
			b, _ := packet.Masked(p, masks[(i+1)%len(masks)]&^m)
			if a.Bits&b.Bits != 0 {
				t.Fatalf("Masked of %v has the common bits %d", p, a.Bits&b.Bits)
			}
		}
	}
}

// P3.2 and P3.3 with R5 and R6: arguments are not modified, results share no memory with them, and equal arguments give equal results.
func TestMemory(t *testing.T) {
	for _, p := range valids() {
		b := encoded(p)
		for _, extra := range []int{0, 3} {
			memory := slices.Concat(b, make([]byte, extra), []byte{7, 7, 7})
			before := slices.Clone(memory)
			got, e := packet.Decode(memory[:len(b)+extra])
			if !slices.Equal(memory, before) {
				t.Fatalf("Decode modified its argument: %v instead of %v", memory, before)
			}
			clear(memory)
			if extra == 0 && (got != p || e != api.OK) {
				t.Fatalf("the packet of Decode shares memory with its argument: %v", got)
			}
		}
		first, _ := packet.Encode(p)
		first = first[:cap(first)]
		clear(first)
		if second, _ := packet.Encode(p); !slices.Equal(second, b) {
			t.Fatalf("Encode gives %v, then %v", b, second)
		}
	}
}
