package stack_test

import (
	"math"
	"slices"
	"strings"
	"testing"

	"bitcast/api"
	"bitcast/packet"
	"bitcast/stack"
)

// far has numbers that are out of each range, some of which seem to be in one if only their lowest bits are looked at.
var far = []int{math.MinInt, math.MinInt + 17, -1 << 32, -1, 1 << 20, 1 << 32, 1<<32 + 17, math.MaxInt}

// random returns a fixed sequence of numbers below n, so that each run of the tests is the same.
func random(seed uint64) func(n int) int {
	return func(n int) int {
		seed = seed*6364136223846793005 + 1442695040888963407
		return int(seed >> 33 % uint64(n))
	}
}

// labels returns n labels with mixed valid values.
func labels(next func(int) int, n int) []api.Label {
	l := make([]api.Label, n)
	for i := range l {
		l[i] = api.Label{Value: next(1 << 20), Class: next(8), Hops: next(256)}
	}
	return l
}

// stacks returns stacks of all lengths, with the ends of all ranges and with mixed values.
func stacks() [][]api.Label {
	next := random(1)
	least, greatest := api.Label{}, api.Label{Value: 1<<20 - 1, Class: 7, Hops: 255}
	var l [][]api.Label
	for n := 1; n <= 24; n++ {
		l = append(l, slices.Repeat([]api.Label{least}, n), slices.Repeat([]api.Label{greatest}, n))
		for range 20 {
			l = append(l, labels(next, n))
		}
	}
	return l
}

// badLabels returns labels that are not valid, each for another reason.
func badLabels() []api.Label {
	var l []api.Label
	for _, base := range []api.Label{{}, {Value: 1<<20 - 1, Class: 7, Hops: 255}} {
		for _, x := range far {
			l = append(l, api.Label{Value: x, Class: base.Class, Hops: base.Hops})
		}
		for _, x := range append([]int{8, 9, 15, 16}, far...) {
			l = append(l, api.Label{Value: base.Value, Class: x, Hops: base.Hops})
		}
		for _, x := range append([]int{256, 257, 511, 512}, far...) {
			l = append(l, api.Label{Value: base.Value, Class: base.Class, Hops: x})
		}
	}
	return l
}

// route returns n mixed routers from least on, no two of them equal.
func route(next func(int) int, n, least int) []int {
	var l []int
	for len(l) < n {
		if r := least + next(100-least); !slices.Contains(l, r) {
			l = append(l, r)
		}
	}
	return l
}

// packets returns valid packets, small and great ones.
func packets() []api.Packet {
	return []api.Packet{
		{Mode: 1, Length: 8},
		{Mode: 2, Subdomain: 5, Set: 18, Length: 32, TTL: 33, Entropy: 513, Ingress: 129, Proto: 6, Bits: 0x80000005, Payload: "a\x80"},
		{Mode: 3, Subdomain: 7, Set: 31, Length: 64, TTL: 63, Entropy: 1023, Ingress: 256, Proto: 7, Bits: 1<<64 - 1, Payload: strings.Repeat("\xff", 64)},
	}
}

// frames returns valid frames with routes of all lengths.
func frames() []api.Frame {
	next := random(2)
	var l []api.Frame
	for _, p := range packets() {
		l = append(l, api.Frame{Packet: p}, api.Frame{Route: []int{}, Packet: p}, api.Frame{Route: []int{1}, Packet: p}, api.Frame{Route: []int{99}, Packet: p})
		for n := range 25 {
			l = append(l, api.Frame{Route: route(next, n, 1), Packet: p})
		}
	}
	return l
}

// badFrames returns frames that are not valid, each for another reason.
func badFrames() []api.Frame {
	next := random(3)
	good := packets()[1]
	l := []api.Frame{{}, {Route: []int{1, 2}}}
	for _, n := range []int{0, 1, 24} {
		p := good
		p.Length = 9
		q := good
		q.TTL = 64
		r := good
		r.Payload = strings.Repeat("x", 65)
		for _, bad := range []api.Packet{p, q, r} {
			l = append(l, api.Frame{Route: route(next, n, 1), Packet: bad})
		}
	}
	for _, n := range []int{25, 26, 99} {
		l = append(l, api.Frame{Route: route(next, n, 1), Packet: good})
	}
	l = append(l, api.Frame{Route: slices.Repeat([]int{5}, 100000), Packet: good})
	for _, n := range []int{1, 2, 24} {
		for at := range n {
			for _, x := range append([]int{0, 100, 101, 115, 257}, far...) {
				m := route(next, n, 1)
				m[at] = x
				l = append(l, api.Frame{Route: m, Packet: good})
			}
		}
	}
	for i := range 24 {
		for j := range i {
			m := route(next, 24, 1)
			m[i] = m[j]
			l = append(l, api.Frame{Route: m, Packet: good})
		}
	}
	return l
}

// bytesOf returns the bytes of a stack, by the definition.
func bytesOf(l []api.Label) []byte {
	var b []byte
	for i, x := range l {
		bottom := 0
		if i == len(l)-1 {
			bottom = 1
		}
		n := x.Value*4096 + x.Class*512 + bottom*256 + x.Hops
		b = append(b, byte(n/16777216), byte(n/65536%256), byte(n/256%256), byte(n%256))
	}
	return b
}

// stackIn returns the stack with which bytes begin, by the definition and the order of the errors.
func stackIn(b []byte) ([]api.Label, int, api.Errno) {
	var l []api.Label
	for i := 0; ; i++ {
		if len(b) < 4*i+4 {
			return nil, 0, api.ErrShort
		}
		n := 0
		for _, x := range b[4*i : 4*i+4] {
			n = n*256 + int(x)
		}
		l = append(l, api.Label{Value: n / 4096, Class: n / 512 % 8, Hops: n % 256})
		if n/256%2 == 1 {
			return l, 4*i + 4, api.OK
		}
		if i == 23 {
			return nil, 0, api.ErrLimit
		}
	}
}

// labelsOf returns the labels for routers, by the definition.
func labelsOf(routers ...int) []api.Label {
	var l []api.Label
	for _, r := range routers {
		l = append(l, api.Label{Value: 16 + r, Class: 0, Hops: 255})
	}
	return l
}

// encoded returns the encoding of a valid frame, by the definition.
func encoded(f api.Frame) []byte {
	rest, _ := packet.Encode(f.Packet)
	if len(f.Route) == 0 {
		return slices.Concat([]byte{0}, rest)
	}
	return slices.Concat([]byte{1}, bytesOf(labelsOf(f.Route...)), rest)
}

// decoded returns the frame with an encoding, by the definition and the order of the errors.
func decoded(b []byte) (api.Frame, api.Errno) {
	if len(b) == 0 {
		return api.Frame{}, api.ErrShort
	}
	if b[0] > 1 {
		return api.Frame{}, api.ErrVersion
	}
	var f api.Frame
	at := 1
	if b[0] == 1 {
		l, n, e := stackIn(b[1:])
		if e != api.OK {
			return api.Frame{}, e
		}
		seen := map[int]bool{}
		for _, x := range l {
			if x.Value < 17 || x.Value > 115 || x.Class != 0 || x.Hops != 255 {
				return api.Frame{}, api.ErrRange
			}
			seen[x.Value] = true
			f.Route = append(f.Route, x.Value-16)
		}
		if len(seen) < len(l) {
			return api.Frame{}, api.ErrDuplicate
		}
		at += n
	}
	p, e := packet.Decode(b[at:])
	if e != api.OK {
		return api.Frame{}, e
	}
	f.Packet = p
	return f, api.OK
}

// equal reports whether two frames are equal.
func equal(f, g api.Frame) bool { return slices.Equal(f.Route, g.Route) && f.Packet == g.Packet }

// empty reports whether a frame is the zero value.
func empty(f api.Frame) bool { return equal(f, api.Frame{}) }

// P4.1: ValidLabel, for each number up to its ends.
func TestValidLabel(t *testing.T) {
	for _, base := range []api.Label{{}, {Value: 17, Hops: 255}, {Value: 1<<20 - 1, Class: 7, Hops: 255}} {
		for x := -300; x < 700; x++ {
			for _, c := range []struct {
				l    api.Label
				want bool
			}{
				{api.Label{Value: x, Class: base.Class, Hops: base.Hops}, x >= 0},
				{api.Label{Value: 1<<20 + x, Class: base.Class, Hops: base.Hops}, x < 0},
				{api.Label{Value: base.Value, Class: x, Hops: base.Hops}, x >= 0 && x <= 7},
				{api.Label{Value: base.Value, Class: base.Class, Hops: x}, x >= 0 && x <= 255},
			} {
				if got := stack.ValidLabel(c.l); got != c.want {
					t.Fatalf("ValidLabel of %v is %t", c.l, got)
				}
			}
		}
	}
	for _, x := range badLabels() {
		if stack.ValidLabel(x) {
			t.Errorf("the label %v should not be valid", x)
		}
	}
}

// P4.1: ValidFrame.
func TestValidFrame(t *testing.T) {
	for _, f := range frames() {
		if !stack.ValidFrame(f) {
			t.Errorf("the frame %v should be valid", f)
		}
	}
	for _, f := range badFrames() {
		if stack.ValidFrame(f) {
			t.Errorf("the frame %v should not be valid", f)
		}
	}
	for r := -50; r < 300; r++ {
		f := api.Frame{Route: []int{r}, Packet: packets()[0]}
		if got := stack.ValidFrame(f); got != (r >= 1 && r <= 99) {
			t.Errorf("ValidFrame with the router %d is %t", r, got)
		}
	}
}

// P4.2: the chapter's example, and stacks written by hand.
func TestEncodeLabelsKnown(t *testing.T) {
	for i, c := range []struct {
		l    []api.Label
		want []byte
	}{
		{[]api.Label{{Value: 17, Hops: 255}, {Value: 20, Hops: 255}}, []byte{0, 1, 16, 255, 0, 1, 65, 255}},
		{[]api.Label{{}}, []byte{0, 0, 1, 0}},
		{[]api.Label{{}, {Hops: 1}, {Class: 1}, {Value: 1}, {}}, []byte{0, 0, 0, 0, 0, 0, 0, 1, 0, 0, 2, 0, 0, 0, 16, 0, 0, 0, 1, 0}},
		{slices.Repeat([]api.Label{{Value: 1<<20 - 1, Class: 7, Hops: 255}}, 2), []byte{255, 255, 254, 255, 255, 255, 255, 255}},
		{[]api.Label{{Value: 0x12345, Class: 5, Hops: 0x67}}, []byte{0x12, 0x34, 0x5b, 0x67}},
	} {
		if b, e := stack.EncodeLabels(c.l); !slices.Equal(b, c.want) || e != api.OK {
			t.Errorf("%d: EncodeLabels is %v, %d; it should be %v", i, b, e, c.want)
		}
		if l, n, e := stack.DecodeLabels(c.want); !slices.Equal(l, c.l) || n != len(c.want) || e != api.OK {
			t.Errorf("%d: DecodeLabels is %v, %d, %d; it should be %v", i, l, n, e, c.l)
		}
	}
}

// P4.2: EncodeLabels.
func TestEncodeLabels(t *testing.T) {
	for _, l := range stacks() {
		if b, e := stack.EncodeLabels(l); !slices.Equal(b, bytesOf(l)) || e != api.OK {
			t.Errorf("EncodeLabels of %v is %v, %d; it should be %v", l, b, e, bytesOf(l))
		}
	}
	for k := range 20 {
		l := []api.Label{{Value: 1 << k}, {Class: 1 << (k % 3)}, {Hops: 1 << (k % 8)}, {Value: 1 << k, Class: 1 << (k % 3), Hops: 1 << (k % 8)}}
		if b, e := stack.EncodeLabels(l); !slices.Equal(b, bytesOf(l)) || e != api.OK {
			t.Errorf("EncodeLabels of %v is %v, %d; it should be %v", l, b, e, bytesOf(l))
		}
	}
}

// P4.2: the errors of EncodeLabels, alone and in their order.
func TestEncodeLabelsErrors(t *testing.T) {
	next := random(4)
	refuse := func(l []api.Label, want api.Errno) {
		t.Helper()
		if b, e := stack.EncodeLabels(l); len(b) != 0 || e != want {
			t.Errorf("EncodeLabels of %d labels is %v, %d; it should be the error %d", len(l), b, e, want)
		}
	}
	refuse(nil, api.ErrLimit)
	refuse([]api.Label{}, api.ErrLimit)
	for _, n := range []int{25, 26, 48, 255, 256, 257, 280, 70000} {
		refuse(labels(next, n), api.ErrLimit)
		refuse(slices.Repeat([]api.Label{{Value: -1}}, n), api.ErrLimit)
		refuse(append([]api.Label{{Class: 8}}, labels(next, n-1)...), api.ErrLimit)
		refuse(append(labels(next, n-1), api.Label{Hops: 256}), api.ErrLimit)
	}
	for _, x := range badLabels() {
		for _, n := range []int{1, 2, 24} {
			for at := range n {
				l := labels(next, n)
				l[at] = x
				refuse(l, api.ErrRange)
			}
		}
	}
}

// refuseStack expects an error of DecodeLabels, and no stack.
func refuseStack(t *testing.T, what string, b []byte, want api.Errno) {
	t.Helper()
	if l, n, e := stack.DecodeLabels(b); len(l) != 0 || n != 0 || e != want {
		t.Errorf("DecodeLabels of %s is %v, %d, %d; it should be the error %d", what, l, n, e, want)
	}
}

// P4.2: DecodeLabels of stacks, alone and with further bytes behind them.
func TestDecodeLabels(t *testing.T) {
	for _, l := range stacks() {
		b := bytesOf(l)
		for _, behind := range [][]byte{nil, {0}, {1, 2, 3}, {0, 0, 0, 0}, {0, 1, 16, 255}, {0, 1, 17, 255}, make([]byte, 70000)} {
			got, n, e := stack.DecodeLabels(slices.Concat(b, behind))
			if !slices.Equal(got, l) || n != len(b) || e != api.OK {
				t.Fatalf("DecodeLabels with %d further bytes is %v, %d, %d; it should be %v", len(behind), got, n, e, l)
			}
		}
		for n := range b {
			refuseStack(t, "a stack without its end", b[:n], api.ErrShort)
		}
	}
}

// P4.2: stacks whose last label is missing or comes too late.
func TestDecodeLabelsErrors(t *testing.T) {
	next := random(5)
	refuseStack(t, "no bytes", nil, api.ErrShort)
	for n := range 60 {
		b := bytesOf(labels(next, n+1))
		open := b[:4*n]
		want := api.ErrShort
		if n >= 24 {
			want = api.ErrLimit
		}
		refuseStack(t, "labels without a last one", open, want)
		for _, x := range [][]byte{{0}, {255, 255}, {0, 0, 1}} {
			refuseStack(t, "labels without a last one, and some bytes", slices.Concat(open, x), want)
		}
		if n >= 24 {
			refuseStack(t, "too many labels", b, api.ErrLimit)
		}
	}
	refuseStack(t, "very many labels", make([]byte, 70000), api.ErrLimit)
}

// P4.2: any bytes, against the definition.
func TestDecodeLabelsAny(t *testing.T) {
	next := random(6)
	seen := map[api.Errno]int{}
	for range 20000 {
		b := make([]byte, next(140))
		often := 1 + next(40)
		for i := range b {
			b[i] = byte(next(256))
			// Few last labels make long stacks.
			if i%4 == 2 && next(often) > 0 {
				b[i] &= 254
			}
		}
		want, size, code := stackIn(b)
		seen[code]++
		if l, n, e := stack.DecodeLabels(b); !slices.Equal(l, want) || n != size || e != code {
			t.Fatalf("DecodeLabels of %v is %v, %d, %d; it should be %v, %d, %d", b, l, n, e, want, size, code)
		}
	}
	for _, e := range []api.Errno{api.OK, api.ErrShort, api.ErrLimit} {
		if seen[e] < 1000 {
			t.Errorf("the result %d came up %d times only", e, seen[e])
		}
	}
}

// P4.3: encodings written by hand.
func TestFrameKnown(t *testing.T) {
	p := api.Packet{Mode: 1, Length: 8}
	rest, _ := packet.Encode(p)
	for i, c := range []struct {
		f     api.Frame
		begin []byte
	}{
		{api.Frame{Packet: p}, []byte{0}},
		{api.Frame{Route: []int{1}, Packet: p}, []byte{1, 0, 1, 17, 255}},
		{api.Frame{Route: []int{1, 4}, Packet: p}, []byte{1, 0, 1, 16, 255, 0, 1, 65, 255}},
		{api.Frame{Route: []int{4, 1}, Packet: p}, []byte{1, 0, 1, 64, 255, 0, 1, 17, 255}},
		{api.Frame{Route: []int{99, 2, 50}, Packet: p}, []byte{1, 0, 7, 48, 255, 0, 1, 32, 255, 0, 4, 33, 255}},
	} {
		whole := slices.Concat(c.begin, rest)
		if b, e := stack.EncodeFrame(c.f); !slices.Equal(b, whole) || e != api.OK {
			t.Errorf("%d: EncodeFrame is %v, %d; it should be %v", i, b, e, whole)
		}
		if f, e := stack.DecodeFrame(whole); !equal(f, c.f) || e != api.OK {
			t.Errorf("%d: DecodeFrame is %v, %d; it should be %v", i, f, e, c.f)
		}
	}
}

// P4.3: EncodeFrame.
func TestEncodeFrame(t *testing.T) {
	for _, f := range frames() {
		if b, e := stack.EncodeFrame(f); !slices.Equal(b, encoded(f)) || e != api.OK {
			t.Errorf("EncodeFrame of %v is %v, %d; it should be %v", f, b, e, encoded(f))
		}
	}
	for _, f := range badFrames() {
		if b, e := stack.EncodeFrame(f); len(b) != 0 || e != api.ErrInvalid {
			t.Errorf("EncodeFrame of the frame %v, which is not valid, is %v, %d", f, b, e)
		}
	}
}

// P4.3: DecodeFrame of encodings.
func TestDecodeFrame(t *testing.T) {
	for _, f := range frames() {
		if got, e := stack.DecodeFrame(encoded(f)); !equal(got, f) || e != api.OK {
			t.Errorf("DecodeFrame is %v, %d; it should be %v", got, e, f)
		}
	}
}

// refuseFrame expects an error of DecodeFrame, and no frame.
func refuseFrame(t *testing.T, what string, b []byte, want api.Errno) {
	t.Helper()
	if f, e := stack.DecodeFrame(b); !empty(f) || e != want {
		t.Errorf("DecodeFrame of %s is %v, %d; it should be the error %d", what, f, e, want)
	}
}

// P4.3: the errors of DecodeFrame before the labels, and those of the packet.
func TestDecodeFrameEnds(t *testing.T) {
	refuseFrame(t, "no bytes", nil, api.ErrShort)
	refuseFrame(t, "no bytes", []byte{}, api.ErrShort)
	refuseFrame(t, "the byte 0", []byte{0}, api.ErrShort)
	refuseFrame(t, "the byte 1", []byte{1}, api.ErrShort)
	for _, f := range frames() {
		b := encoded(f)
		for first := 2; first < 256; first++ {
			refuseFrame(t, "another first byte", append([]byte{byte(first)}, b[1:]...), api.ErrVersion)
		}
		for n := range b {
			refuseFrame(t, "an encoding without its end", b[:n], api.ErrShort)
		}
		refuseFrame(t, "an encoding and a further byte", append(b, 0), api.ErrLong)
		last := slices.Clone(b)
		last[len(b)-1] ^= 1
		refuseFrame(t, "an encoding whose last bit is another", last, api.ErrPadding)
		last[len(b)-1] ^= 1
		last[len(b)-2] ^= 1
		refuseFrame(t, "a wrong check number", last, api.ErrCheck)
	}
}

// P4.3: labels that do not stand for routers, at all places.
func TestDecodeFrameLabels(t *testing.T) {
	next := random(7)
	rest, _ := packet.Encode(packets()[0])
	for _, n := range []int{1, 2, 24} {
		for at := range n {
			l := labelsOf(route(next, n, 1)...)
			whole := func(x api.Label) []byte {
				m := slices.Clone(l)
				m[at] = x
				return slices.Concat([]byte{1}, bytesOf(m), rest)
			}
			for value := range 400 {
				if value < 17 || value > 115 {
					refuseFrame(t, "a label of no router", whole(api.Label{Value: value, Hops: 255}), api.ErrRange)
				}
			}
			for k := range 20 {
				if k > 6 {
					refuseFrame(t, "a label of no router", whole(api.Label{Value: 1<<k + l[at].Value, Hops: 255}), api.ErrRange)
				}
			}
			for class := 1; class < 8; class++ {
				refuseFrame(t, "a label with a class", whole(api.Label{Value: l[at].Value, Class: class, Hops: 255}), api.ErrRange)
			}
			for hops := range 255 {
				refuseFrame(t, "a label with few hops", whole(api.Label{Value: l[at].Value, Hops: hops}), api.ErrRange)
			}
			for other := range l {
				if other != at {
					refuseFrame(t, "two equal labels", whole(l[other]), api.ErrDuplicate)
				}
			}
		}
	}
}

// P4.3: the order of the errors. Each case has all the mistakes of those that follow.
func TestDecodeFrameOrder(t *testing.T) {
	five, none := labelsOf(5)[0], labelsOf(0)[0]
	open := func(n int) []byte {
		b := bytesOf(append(slices.Repeat([]api.Label{none, five, five}, 9), five))
		return b[:4*n]
	}
	refuseFrame(t, "another first byte", append([]byte{2}, open(24)...), api.ErrVersion)
	refuseFrame(t, "labels without an end", append([]byte{1}, open(23)...), api.ErrShort)
	refuseFrame(t, "too many labels", append([]byte{1}, open(27)...), api.ErrLimit)
	for _, bad := range []api.Label{none, labelsOf(100)[0], {Value: 21, Class: 1, Hops: 255}, {Value: 21, Hops: 254}} {
		refuseFrame(t, "a bad label", slices.Concat([]byte{1}, bytesOf([]api.Label{five, five, bad}), []byte{0}), api.ErrRange)
		refuseFrame(t, "a bad label", slices.Concat([]byte{1}, bytesOf([]api.Label{bad, five, five}), []byte{0}), api.ErrRange)
		refuseFrame(t, "two bad labels", slices.Concat([]byte{1}, bytesOf([]api.Label{bad, bad})), api.ErrRange)
	}
	refuseFrame(t, "two equal labels", slices.Concat([]byte{1}, bytesOf([]api.Label{five, five}), []byte{0}), api.ErrDuplicate)
	for _, begin := range [][]byte{{0}, slices.Concat([]byte{1}, bytesOf(labelsOf(5)))} {
		for version := range 4 {
			rest := make([]byte, 7)
			rest[0] = byte(version * 64)
			want := api.ErrVersion
			if version == 2 {
				want = api.ErrInvalid
			}
			refuseFrame(t, "a header without a mode", slices.Concat(begin, rest), want)
			refuseFrame(t, "a header that is too short", slices.Concat(begin, rest[:6]), api.ErrShort)
		}
	}
}

// P4.3: any bytes, most of them nearly an encoding, against the definition.
func TestDecodeFrameAny(t *testing.T) {
	next := random(8)
	seen := map[api.Errno]int{}
	for range 40000 {
		f := api.Frame{Route: route(next, next(6), 1), Packet: packets()[next(3)]}
		l := labelsOf(f.Route...)
		rest, _ := packet.Encode(f.Packet)
		if len(l) > 0 && next(3) == 0 {
			l[next(len(l))] = api.Label{Value: next(150), Class: next(20) / 19, Hops: 255 - next(20)/19}
		}
		b := slices.Concat([]byte{byte(min(1, len(l)))}, bytesOf(l), rest)
		if next(8) == 0 {
			b = slices.Concat([]byte{1}, make([]byte, 4*next(25)), b[1:])
		}
		for range max(0, next(4)-1) {
			b[next(len(b))] ^= 1 << next(8)
		}
		if next(6) == 0 {
			b = b[:next(len(b)+1)]
		}
		want, code := decoded(b)
		seen[code]++
		if got, e := stack.DecodeFrame(b); !equal(got, want) || e != code {
			t.Fatalf("DecodeFrame of %v is %v, %d; it should be %v, %d", b, got, e, want, code)
		}
	}
	for _, e := range []api.Errno{api.OK, api.ErrShort, api.ErrVersion, api.ErrLimit, api.ErrRange, api.ErrDuplicate, api.ErrCheck, api.ErrPadding} {
		if seen[e] < 100 {
			t.Errorf("the result %d came up %d times only", e, seen[e])
		}
	}
}

// P4.4: Push, with routes of all lengths in front of routes of all lengths.
func TestPush(t *testing.T) {
	next := random(9)
	for _, p := range packets() {
		for n := range 26 {
			for m := range 25 {
				whole := route(next, n+m, 1)
				got, e := stack.Push(api.Frame{Route: whole[n:], Packet: p}, whole[:n])
				switch {
				case n+m > 24:
					if !empty(got) || e != api.ErrLimit {
						t.Errorf("Push of %d routers before %d is %v, %d", n, m, got, e)
					}
				case !equal(got, api.Frame{Route: whole, Packet: p}) || e != api.OK:
					t.Errorf("Push of %v before %v is %v, %d", whole[:n], whole[n:], got, e)
				}
			}
		}
	}
}

// refusePush expects an error of Push, and no frame.
func refusePush(t *testing.T, what string, f api.Frame, route []int, want api.Errno) {
	t.Helper()
	if g, e := stack.Push(f, route); !empty(g) || e != want {
		t.Errorf("Push of %s is %v, %d; it should be the error %d", what, g, e, want)
	}
}

// P4.4: the errors of Push, each alone.
func TestPushErrors(t *testing.T) {
	next := random(10)
	for _, f := range badFrames() {
		refusePush(t, "no routers before a frame that is not valid", f, nil, api.ErrInvalid)
		refusePush(t, "a router before a frame that is not valid", f, []int{7}, api.ErrInvalid)
	}
	f := api.Frame{Route: []int{3, 2, 1}, Packet: packets()[1]}
	for _, n := range []int{1, 2, 21} {
		for at := range n {
			for _, x := range append([]int{0, 100, 101, 115, 257}, far...) {
				l := route(next, n, 4)
				l[at] = x
				refusePush(t, "a number that is no router's", f, l, api.ErrRange)
			}
			for _, r := range f.Route {
				l := route(next, n, 4)
				l[at] = r
				refusePush(t, "a router of the frame", f, l, api.ErrDuplicate)
			}
			for other := range at {
				l := route(next, n, 4)
				l[at] = l[other]
				refusePush(t, "a router twice", f, l, api.ErrDuplicate)
			}
		}
	}
	for _, n := range []int{22, 23, 24, 25, 90} {
		refusePush(t, "too many routers", f, route(next, n, 4), api.ErrLimit)
	}
	refusePush(t, "very many routers", f, slices.Repeat([]int{50}, 100000), api.ErrLimit)
}

// P4.4: the order of the errors of Push. Each case has all the mistakes of those that follow.
func TestPushOrder(t *testing.T) {
	f := api.Frame{Route: []int{3, 2, 1}, Packet: packets()[1]}
	long := slices.Repeat([]int{3}, 22)
	for _, bad := range badFrames() {
		refusePush(t, "routers before a frame that is not valid", bad, append(long, 0), api.ErrInvalid)
	}
	refusePush(t, "too many routers, and a number that is no router's", f, append(long, 0), api.ErrRange)
	refusePush(t, "too many routers, and a number that is no router's", f, append([]int{100}, long...), api.ErrRange)
	refusePush(t, "equal routers, and a number that is no router's", f, []int{3, 3, 100}, api.ErrRange)
	refusePush(t, "too many equal routers", f, long, api.ErrLimit)
	refusePush(t, "as many equal routers as fit", f, long[:21], api.ErrDuplicate)
}

// P4.4: Pop.
func TestPop(t *testing.T) {
	for _, f := range frames() {
		r, g, ok := stack.Pop(f)
		if len(f.Route) == 0 {
			if r != 0 || !empty(g) || ok {
				t.Errorf("Pop without a route is %d, %v, %t", r, g, ok)
			}
			continue
		}
		if r != f.Route[0] || !equal(g, api.Frame{Route: f.Route[1:], Packet: f.Packet}) || !ok {
			t.Errorf("Pop of %v is %d, %v, %t", f, r, g, ok)
		}
	}
	for _, f := range badFrames() {
		if r, g, ok := stack.Pop(f); r != 0 || !empty(g) || ok {
			t.Errorf("Pop of the frame %v, which is not valid, is %d, %v, %t", f, r, g, ok)
		}
	}
}

// P4.5: decoding undoes encoding, and encoding undoes decoding.
func TestThereAndBack(t *testing.T) {
	for _, l := range stacks() {
		b, _ := stack.EncodeLabels(l)
		back, n, e := stack.DecodeLabels(b)
		again, f := stack.EncodeLabels(back)
		if !slices.Equal(back, l) || n != len(b) || e != api.OK || !slices.Equal(again, b) || f != api.OK {
			t.Fatalf("EncodeLabels and DecodeLabels change %v to %v", l, back)
		}
	}
	for _, f := range frames() {
		b, _ := stack.EncodeFrame(f)
		back, e := stack.DecodeFrame(b)
		again, g := stack.EncodeFrame(back)
		if !equal(back, f) || e != api.OK || !slices.Equal(again, b) || g != api.OK {
			t.Fatalf("EncodeFrame and DecodeFrame change %v to %v", f, back)
		}
	}
}

// P4.5: Pop undoes Push of one router.
func TestPushAndPop(t *testing.T) {
	for _, f := range frames() {
		for r := 1; r <= 99; r++ {
			g, e := stack.Push(f, []int{r})
			if e != api.OK {
				continue
			}
			if got, back, ok := stack.Pop(g); got != r || !equal(back, f) || !ok {
				t.Fatalf("Pop of %v is %d, %v, %t", g, got, back, ok)
			}
		}
	}
}

// P4.2 and P4.3 with R5 and R6: the bytes and their sources share no memory, and equal arguments give equal results.
func TestMemoryOfBytes(t *testing.T) {
	for _, l := range stacks() {
		source := slices.Clone(l)
		b, _ := stack.EncodeLabels(source)
		if !slices.Equal(source, l) {
			t.Fatalf("EncodeLabels modified its argument: %v instead of %v", source, l)
		}
		memory := slices.Clone(b)
		got, _, _ := stack.DecodeLabels(memory)
		if !slices.Equal(memory, b) {
			t.Fatalf("DecodeLabels modified its argument: %v instead of %v", memory, b)
		}
		clear(memory)
		clear(b[:cap(b)])
		if again, _ := stack.EncodeLabels(source); !slices.Equal(got, l) || !slices.Equal(again, bytesOf(l)) {
			t.Fatalf("the results for %v share memory: %v, %v", l, got, again)
		}
	}
	for _, f := range frames() {
		source := api.Frame{Route: slices.Clone(f.Route), Packet: f.Packet}
		b, _ := stack.EncodeFrame(source)
		if !equal(source, f) {
			t.Fatalf("EncodeFrame modified its argument: %v instead of %v", source, f)
		}
		memory := slices.Clone(b)
		got, _ := stack.DecodeFrame(memory)
		if !slices.Equal(memory, b) {
			t.Fatalf("DecodeFrame modified its argument: %v instead of %v", memory, b)
		}
		clear(memory)
		clear(b[:cap(b)])
		if again, _ := stack.EncodeFrame(source); !equal(got, f) || !slices.Equal(again, encoded(f)) {
			t.Fatalf("the results for %v share memory: %v, %v", f, got, again)
		}
	}
}

// P4.4 with R5 and R6: routes with room behind them are not written to, and share no memory with results.
func TestMemoryOfRoutes(t *testing.T) {
	p := packets()[1]
	for n := range 5 {
		for m := range 5 {
			memory := []int{11, 12, 13, 14, 15, 16, 17, 18, 31, 32, 33, 34, 35, 36, 37, 38}
			before := slices.Clone(memory)
			front, f := memory[:n], api.Frame{Route: memory[8 : 8+m], Packet: p}
			want := slices.Concat(front, f.Route)
			pushed, _ := stack.Push(f, front)
			_, popped, _ := stack.Pop(f)
			stack.ValidFrame(f)
			if !slices.Equal(memory, before) {
				t.Fatalf("Push or Pop modified its arguments: %v instead of %v", memory, before)
			}
			clear(memory)
			if !slices.Equal(pushed.Route, want) || m > 0 && !slices.Equal(popped.Route, before[9:8+m]) {
				t.Fatalf("the results %v and %v share memory with the arguments", pushed, popped)
			}
			copy(memory, before)
			clear(pushed.Route[:cap(pushed.Route)])
			clear(popped.Route[:cap(popped.Route)])
			if !slices.Equal(memory, before) {
				t.Fatalf("the arguments share memory with the results: %v instead of %v", memory, before)
			}
		}
	}
}
