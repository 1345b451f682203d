package cbor_test

import (
	"bytes"
	"errors"
	"math"
	"slices"
	"strconv"
	"strings"
	"sync"
	"testing"

	"pyx/api"
	"pyx/cbor"
)

// Items of each kind; neg(n) has the value -1 - n.
func pos(n uint64) cbor.Item            { return cbor.Item{Kind: cbor.Uint, Number: n} }
func neg(n uint64) cbor.Item            { return cbor.Item{Kind: cbor.Nint, Number: n} }
func octets(b ...byte) cbor.Item        { return cbor.Item{Kind: cbor.Bytes, Bytes: b} }
func text(s string) cbor.Item           { return cbor.Item{Kind: cbor.Text, Bytes: []byte(s)} }
func array(kids ...cbor.Item) cbor.Item { return cbor.Item{Kind: cbor.Array, Kids: kids} }
func pairs(kids ...cbor.Item) cbor.Item { return cbor.Item{Kind: cbor.Map, Kids: kids} }

// some returns n bytes that look random.
func some(n int) []byte {
	b, seed := make([]byte, n), uint64(n)
	for i := range b {
		seed = seed*6364136223846793005 + 1442695040888963407
		b[i] = byte(seed >> 56)
	}
	return b
}

// letters returns a Text with n bytes that look random.
func letters(n int) cbor.Item {
	b := some(n)
	for i := range b {
		b[i] = 32 + b[i]%95
	}
	return text(string(b))
}

// wide returns an Array of n Uints.
func wide(n int) cbor.Item {
	kids := make([]cbor.Item, n)
	for i := range kids {
		kids[i].Number = uint64(i % 24)
	}
	return array(kids...)
}

// counted returns a Map of n pairs, whose keys are Uints in order.
func counted(n int) cbor.Item {
	kids := make([]cbor.Item, 2*n)
	for i := range n {
		kids[2*i].Number, kids[2*i+1].Number = uint64(i), uint64(i%24)
	}
	return pairs(kids...)
}

// wrap returns an item one level above another one, in one of a few ways; in
// each of them the encoding ends with that of the item.
func wrap(way int, x cbor.Item) cbor.Item {
	switch way {
	case 0:
		return array(x)
	case 1:
		return pairs(pos(0), x)
	case 2:
		return array(pos(7), text("a"), x)
	}
	return pairs(pos(1), octets(1, 2), neg(0), x)
}

// ways is the number of ways of wrap; before returns the bytes that come before
// the item in each of them.
const ways = 4

func before(way int) []byte {
	return [][]byte{{129}, {161, 0}, {131, 7, 97, 'a'}, {162, 1, 66, 1, 2, 32}}[way]
}

// under returns b in a string with a number of items above it, which all hold
// it in the same way, and its offset there.
func under(way, above int, b []byte) ([]byte, int) {
	front := bytes.Repeat(before(way), above)
	return slices.Concat(front, b), len(front)
}

// firstTooDeep returns the offset of the first item that has MaxDepth items
// above it, where items hold each other in the same way.
func firstTooDeep(way int) int { return 7*len(before(way)) + 1 }

// chain returns an item of a depth.
func chain(way, depth int) cbor.Item {
	x := pos(0)
	for range depth - 1 {
		x = wrap(way, x)
	}
	return x
}

// equal compares two items without Same.
func equal(a, b cbor.Item) bool {
	if a.Kind != b.Kind || a.Number != b.Number || string(a.Bytes) != string(b.Bytes) || len(a.Kids) != len(b.Kids) {
		return false
	}
	for i := range a.Kids {
		if !equal(a.Kids[i], b.Kids[i]) {
			return false
		}
	}
	return true
}

// show is for messages.
func show(x cbor.Item) string {
	s := strconv.Itoa(x.Kind) + ":" + strconv.FormatUint(x.Number, 10) + ":" + hex(x.Bytes[:min(len(x.Bytes), 20)])
	if len(x.Bytes) > 20 {
		s += "..[" + strconv.Itoa(len(x.Bytes)) + "]"
	}
	if len(x.Kids) > 20 {
		return s + "{" + strconv.Itoa(len(x.Kids)) + " kids}"
	}
	for _, kid := range x.Kids {
		s += "{" + show(kid) + "}"
	}
	return s
}

func hex(b []byte) string {
	var s strings.Builder
	for _, c := range b {
		s.WriteString(strconv.FormatInt(int64(c)+256, 16)[1:])
	}
	return s.String()
}

// first is the first bytes, for messages.
func first(b []byte) []byte { return b[:min(len(b), 40)] }

// good checks that an item is valid and has an encoding.
func good(t *testing.T, x cbor.Item, want []byte) {
	t.Helper()
	if !cbor.Valid(x) {
		t.Errorf("%s is not valid", show(x))
	}
	if got, err := cbor.Encode(x); !bytes.Equal(got, want) || err != nil {
		t.Errorf("Encode(%s): %d bytes, %v, %v, want %d, %v", show(x), len(got), first(got), err, len(want), first(want))
	}
	if got, err := cbor.Parse(want); !equal(got, x) || err != nil {
		t.Errorf("Parse of %d bytes, %v: %s, %v, want %s", len(want), first(want), show(got), err, show(x))
	}
}

// invalid checks that an item is not valid and has no encoding.
func invalid(t *testing.T, x cbor.Item) {
	t.Helper()
	if cbor.Valid(x) {
		t.Errorf("%d:%d with %d bytes and %d kids is valid", x.Kind, x.Number, len(x.Bytes), len(x.Kids))
	}
	if got, err := cbor.Encode(x); len(got) != 0 || err != error(api.BadObject) {
		t.Errorf("Encode of %d:%d with %d bytes and %d kids: %d bytes, %#v", x.Kind, x.Number, len(x.Bytes), len(x.Kids), len(got), err)
	}
}

// bad checks the error of a string.
func bad(t *testing.T, b []byte, code api.Code, at int) {
	t.Helper()
	want := api.Fault{Code: code, At: at}
	if got, err := cbor.Parse(b); !equal(got, cbor.Item{}) || err != error(want) {
		t.Errorf("Parse of %d bytes, %v: %s, %#v, want %#v", len(b), first(b), show(got), err, want)
	}
}

// badInside checks the error of a string, also where it lies in items.
func badInside(t *testing.T, b []byte, code api.Code, at int) {
	t.Helper()
	for way := range ways {
		for above := range 6 {
			whole, front := under(way, above, b)
			bad(t, whole, code, front+at)
		}
	}
}

// heads returns each way to write a number after the first byte of a head, and
// the five lowest bits of that byte; the first one is the one with the least
// bytes.
func heads(kind int, n uint64) [][]byte {
	var l [][]byte
	if n < 24 {
		l = append(l, []byte{byte(kind*32 + int(n))})
	}
	for i := range 4 {
		size := []int{1, 2, 4, 8}[i]
		h := []byte{byte(kind*32 + 24 + i)}
		rest := n
		for j := size - 1; j >= 0; j-- {
			c := byte(n >> (8 * j))
			h = append(h, c)
			rest -= uint64(c) << (8 * j)
		}
		if rest == 0 {
			l = append(l, h)
		}
	}
	return l
}

func headOf(kind int, n uint64) []byte { return heads(kind, n)[0] }

// encoded returns the encoding of a valid item, written as the chapter says.
func encoded(x cbor.Item) []byte {
	switch x.Kind {
	case cbor.Uint, cbor.Nint:
		return headOf(x.Kind, x.Number)
	case cbor.Bytes, cbor.Text:
		return append(headOf(x.Kind, uint64(len(x.Bytes))), x.Bytes...)
	}
	n := len(x.Kids)
	if x.Kind == cbor.Map {
		n /= 2
	}
	b := headOf(x.Kind, uint64(n))
	for _, kid := range x.Kids {
		b = append(b, encoded(kid)...)
	}
	return b
}

// part is a string that is read from an offset on. A reading stops by a panic
// with the api.Fault.
type part struct {
	b  []byte
	at int
}

func stop(code api.Code, at int) { panic(api.Fault{Code: code, At: at}) }

// need stops unless that many bytes are left.
func (p *part) need(n uint64) {
	if n > uint64(len(p.b)-p.at) {
		stop(api.Truncated, len(p.b))
	}
}

// number reads the number of a head whose first byte has been read.
func (p *part) number(low byte) uint64 {
	if low < 24 {
		return uint64(low)
	}
	start, size := p.at-1, []int{1, 2, 4, 8}[low-24]
	p.need(uint64(size))
	n, _ := strconv.ParseUint(hex(p.b[p.at:p.at+size]), 16, 64)
	p.at += size
	if len(headOf(0, n)) != 1+size {
		stop(api.Length, start)
	}
	return n
}

// item reads an item as the chapter says.
func (p *part) item(above int) cbor.Item {
	start := p.at
	p.need(1)
	c := p.b[start]
	if c >= 6*32 || c%32 >= 28 {
		stop(api.Syntax, start)
	}
	if above == 8 {
		stop(api.TooDeep, start)
	}
	p.at++
	x := cbor.Item{Kind: int(c / 32)}
	n := p.number(c % 32)
	switch x.Kind {
	case 0, 1:
		x.Number = n
	case 2, 3:
		p.need(n)
		x.Bytes = p.b[p.at : p.at+int(n)]
		for i, c := range x.Bytes {
			if x.Kind == 3 && strings.IndexByte(printable, c) < 0 {
				stop(api.Syntax, p.at+i)
			}
		}
		p.at += int(n)
	default:
		p.below(&x, n, above+1)
	}
	return x
}

const printable = " !\"#$%&'()*+,-./0123456789:;<=>?@ABCDEFGHIJKLMNOPQRSTUVWXYZ[\\]^_`abcdefghijklmnopqrstuvwxyz{|}~"

// below reads the kids of an Array, or the pairs of a Map.
func (p *part) below(x *cbor.Item, n uint64, above int) {
	last := ""
	for i := uint64(0); i < n; i++ {
		start := p.at
		x.Kids = append(x.Kids, p.item(above))
		if x.Kind == 4 {
			continue
		}
		key := string(p.b[start:p.at])
		if i > 0 && key <= last {
			stop(api.Order, start)
		}
		last = key
		x.Kids = append(x.Kids, p.item(above))
	}
}

// read reads a string as the chapter says.
func read(b []byte) (x cbor.Item, err error) {
	defer func() {
		if f, ok := recover().(api.Fault); ok {
			x, err = cbor.Item{}, f
		}
	}()
	p := part{b: b}
	x = p.item(0)
	if p.at < len(b) {
		stop(api.Trailing, p.at)
	}
	return x, nil
}

// judge compares Parse with the reading above, and what is accepted with Encode.
func judge(t *testing.T, b []byte) {
	t.Helper()
	x, err := read(b)
	if err != nil {
		f := err.(api.Fault)
		bad(t, b, f.Code, f.At)
		return
	}
	good(t, x, b)
}

// P10.1 to P10.3: ordinary items

func TestItems(t *testing.T) {
	for _, x := range []struct {
		x    cbor.Item
		want []byte
	}{
		{pairs(pos(1), pos(7), neg(0), octets(5)), []byte{162, 1, 7, 32, 65, 5}},
		{pos(0), []byte{0}}, {pos(1000000), []byte{26, 0, 15, 66, 64}}, {pos(1000000000000), []byte{27, 0, 0, 0, 232, 212, 165, 16, 0}},
		{neg(0), []byte{32}}, {neg(9), []byte{41}}, {neg(99), []byte{56, 99}}, {neg(999), []byte{57, 3, 231}},
		{octets(), []byte{64}}, {octets(1, 2, 3, 4), []byte{68, 1, 2, 3, 4}}, {octets(0, 31, 127, 255), []byte{68, 0, 31, 127, 255}},
		{text(""), []byte{96}}, {text("IETF"), []byte{100, 'I', 'E', 'T', 'F'}}, {text("\"\\"), []byte{98, '"', '\\'}},
		{array(), []byte{128}}, {array(pos(1), pos(2), pos(3)), []byte{131, 1, 2, 3}}, {array(pos(1), array(pos(2), pos(3)), array(pos(4), pos(5))), []byte{131, 1, 130, 2, 3, 130, 4, 5}},
		{pairs(), []byte{160}}, {pairs(pos(1), pos(2), pos(3), pos(4)), []byte{162, 1, 2, 3, 4}}, {pairs(text("a"), pos(1), text("b"), array(pos(2), pos(3))), []byte{162, 97, 'a', 1, 97, 'b', 130, 2, 3}},
		{array(text("a"), pairs(text("b"), text("c"))), []byte{130, 97, 'a', 161, 97, 'b', 97, 'c'}},
		{wide(25), []byte{152, 25, 0, 1, 2, 3, 4, 5, 6, 7, 8, 9, 10, 11, 12, 13, 14, 15, 16, 17, 18, 19, 20, 21, 22, 23, 0}},
	} {
		good(t, x.x, x.want)
		for way := range ways {
			good(t, wrap(way, x.x), append(before(way), x.want...))
		}
	}
}

func TestKinds(t *testing.T) {
	if cbor.Uint != 0 || cbor.Nint != 1 || cbor.Bytes != 2 || cbor.Text != 3 || cbor.Array != 4 || cbor.Map != 5 {
		t.Error("the constants of kinds")
	}
}

// limits are the numbers at which heads change, with their heads for kind 0.
var limits = []struct {
	n    uint64
	head []byte
}{
	{0, []byte{0}}, {1, []byte{1}}, {22, []byte{22}}, {23, []byte{23}},
	{24, []byte{24, 24}}, {25, []byte{24, 25}}, {31, []byte{24, 31}}, {32, []byte{24, 32}}, {127, []byte{24, 127}}, {128, []byte{24, 128}}, {254, []byte{24, 254}}, {255, []byte{24, 255}},
	{256, []byte{25, 1, 0}}, {257, []byte{25, 1, 1}}, {32768, []byte{25, 128, 0}}, {65534, []byte{25, 255, 254}}, {65535, []byte{25, 255, 255}},
	{65536, []byte{26, 0, 1, 0, 0}}, {65537, []byte{26, 0, 1, 0, 1}}, {1 << 24, []byte{26, 1, 0, 0, 0}}, {1 << 31, []byte{26, 128, 0, 0, 0}}, {1<<32 - 2, []byte{26, 255, 255, 255, 254}}, {1<<32 - 1, []byte{26, 255, 255, 255, 255}},
	{1 << 32, []byte{27, 0, 0, 0, 1, 0, 0, 0, 0}}, {1<<32 + 1, []byte{27, 0, 0, 0, 1, 0, 0, 0, 1}}, {0x0102030405060708, []byte{27, 1, 2, 3, 4, 5, 6, 7, 8}}, {1 << 62, []byte{27, 64, 0, 0, 0, 0, 0, 0, 0}}, {1<<63 - 1, []byte{27, 127, 255, 255, 255, 255, 255, 255, 255}},
	{1 << 63, []byte{27, 128, 0, 0, 0, 0, 0, 0, 0}}, {1<<63 + 1, []byte{27, 128, 0, 0, 0, 0, 0, 0, 1}}, {1<<64 - 2, []byte{27, 255, 255, 255, 255, 255, 255, 255, 254}}, {1<<64 - 1, []byte{27, 255, 255, 255, 255, 255, 255, 255, 255}},
}

// head returns a head of a kind, of one for the kind 0.
func head(kind int, of []byte) []byte {
	h := bytes.Clone(of)
	h[0] += byte(32 * kind)
	return h
}

func TestNumbersAtLimitsOfHeads(t *testing.T) {
	for _, l := range limits {
		good(t, pos(l.n), l.head)
		good(t, neg(l.n), head(cbor.Nint, l.head))
		good(t, pairs(pos(l.n), neg(l.n), neg(l.n), pos(l.n)), slices.Concat([]byte{162}, l.head, head(1, l.head), head(1, l.head), l.head))
	}
}

func TestSizesAtLimitsOfHeads(t *testing.T) {
	for _, l := range limits {
		if l.n > 1<<17 {
			continue
		}
		n := int(l.n)
		good(t, octets(some(n)...), append(head(cbor.Bytes, l.head), some(n)...))
		good(t, letters(n), append(head(cbor.Text, l.head), letters(n).Bytes...))
		b := head(cbor.Array, l.head)
		for i := range n {
			b = append(b, byte(i%24))
		}
		good(t, wide(n), b)
		b = head(cbor.Map, l.head)
		for i := range n {
			b = append(append(b, headOf(0, uint64(i))...), byte(i%24))
		}
		good(t, counted(n), b)
	}
}

func TestEachSmallNumber(t *testing.T) {
	for n := range uint64(1 << 16) {
		if got, err := cbor.Encode(pos(n)); !bytes.Equal(got, headOf(0, n)) || err != nil {
			t.Fatalf("Encode of %d: %v, %v", n, got, err)
		}
		for i, h := range heads(1, n) {
			want := error(api.Fault{Code: api.Length, At: 0})
			if i == 0 {
				want = nil
			}
			x, err := cbor.Parse(h)
			if i == 0 && (err != nil || !equal(x, neg(n))) || i > 0 && err != want {
				t.Fatalf("Parse(%v): %s, %v", h, show(x), err)
			}
		}
	}
}

func TestGreatestItems(t *testing.T) {
	size := api.MaxInput - 5
	top := []byte{90, 0, 15, 255, 251}
	good(t, octets(some(size)...), slices.Concat(top, some(size)))
	invalid(t, octets(some(size+1)...))
	invalid(t, octets(make([]byte, 2*api.MaxInput)...))
	invalid(t, octets(make([]byte, 1<<24)...))

	good(t, letters(size), slices.Concat(head(1, top), letters(size).Bytes))
	invalid(t, letters(size+1))

	good(t, wide(size), encoded(wide(size)))
	if b, _ := cbor.Encode(wide(size)); len(b) != api.MaxInput || !bytes.Equal(b[:5], head(2, top)) {
		t.Error("the head of the longest Array", len(b))
	}
	invalid(t, wide(size+1))
	invalid(t, wide(2*api.MaxInput))

	good(t, array(octets(some(size-1)...)), slices.Concat([]byte{129, 90, 0, 15, 255, 250}, some(size-1)))
	invalid(t, array(octets(some(size)...)))
	invalid(t, array(octets(some(size-1)...), pos(0)))
	invalid(t, array(pos(0), octets(some(size-1)...)))
	invalid(t, array(array(octets(some(size-1)...))))
	good(t, array(octets(some(size-2)...), pos(23)), slices.Concat([]byte{130, 90, 0, 15, 255, 249}, some(size-2), []byte{23}))
	invalid(t, array(octets(some(size-2)...), pos(24)))
	good(t, array(octets(some(size-4)...), pos(256)), slices.Concat([]byte{130, 90, 0, 15, 255, 247}, some(size-4), []byte{25, 1, 0}))
	invalid(t, array(octets(some(size-4)...), pos(65536)))
	invalid(t, array(octets(some(size/2)...), octets(some(size/2)...)))
}

func TestGreatestMaps(t *testing.T) {
	size := api.MaxInput - 5
	most := counted(api.MaxInput / 6)
	b := encoded(most)
	good(t, most, b)
	last := octets(some(api.MaxInput - len(b) - 6)...)
	most.Kids = append(most.Kids, last, pos(0))
	b = encoded(most)
	if len(b) != api.MaxInput {
		t.Errorf("%d bytes", len(b))
	}
	good(t, most, b)
	most.Kids[len(most.Kids)-1] = pos(24)
	invalid(t, most)

	key := octets(some(size - 2)...)
	good(t, pairs(key, pos(9)), slices.Concat([]byte{161, 90, 0, 15, 255, 249}, key.Bytes, []byte{9}))
	good(t, pairs(pos(9), key), slices.Concat([]byte{161, 9, 90, 0, 15, 255, 249}, key.Bytes))
	invalid(t, pairs(key, pos(99)))
	invalid(t, pairs(pos(99), key))
	half := some(size/2 - 10)
	other := bytes.Clone(half)
	other[len(other)-1]++
	one, two := octets(half...), octets(other...)
	if half[len(half)-1] == 255 {
		one, two = two, one
	}
	good(t, pairs(one, pos(0), two, pos(0)), encoded(pairs(one, pos(0), two, pos(0))))
	invalid(t, pairs(two, pos(0), one, pos(0)))
	invalid(t, pairs(one, pos(0), one, pos(0)))
	bad(t, encoded(pairs(two, pos(0), one, pos(0))), api.Order, 1+len(encoded(one))+1)
}

// P10.1: items that are not valid

// invalidInside checks an item that is not valid, also below others.
func invalidInside(t *testing.T, x cbor.Item) {
	t.Helper()
	invalid(t, x)
	invalid(t, array(pos(1), x, text("a")))
	invalid(t, pairs(pos(1), pos(2), neg(1), x, octets(1), text("a")))
	invalid(t, pairs(x, pos(1)))
	for way := range ways {
		y := x
		for range 8 {
			y = wrap(way, y)
			invalid(t, y)
		}
	}
}

func TestOtherKinds(t *testing.T) {
	kids := []cbor.Item{pos(1), pos(2)}
	for _, kind := range []int{6, 7, 8, 32, 255, 256, 261, 1 << 20, 1 << 32, 1<<32 + 2, math.MaxInt, -1, -2, -3, -6, -8, -250, -256, math.MinInt, math.MinInt + 2} {
		for _, x := range []cbor.Item{{Kind: kind}, {Kind: kind, Number: 1}, {Kind: kind, Bytes: []byte("a")}, {Kind: kind, Kids: kids}, {Kind: kind, Number: 1, Bytes: []byte("a"), Kids: kids}} {
			invalidInside(t, x)
		}
	}
}

func TestFieldsOfOtherKinds(t *testing.T) {
	kids := []cbor.Item{pos(1), pos(2)}
	for kind := range 6 {
		for mask := range 8 {
			for _, n := range []uint64{1, 2, 24, 1<<64 - 1} {
				x := cbor.Item{Kind: kind}
				if mask&1 != 0 {
					x.Number = n
				}
				if mask&2 != 0 {
					x.Bytes = []byte("a")
				}
				if mask&4 != 0 {
					x.Kids = kids
				}
				// The bit of the only field that the kind has.
				if has := []int{1, 1, 2, 2, 4, 4}[kind]; mask&^has == 0 {
					good(t, x, encoded(x))
				} else {
					invalidInside(t, x)
				}
			}
		}
	}
	// Fields that are wrong are wrong also with little in them.
	invalidInside(t, cbor.Item{Kind: cbor.Uint, Bytes: []byte{0}})
	invalidInside(t, cbor.Item{Kind: cbor.Nint, Kids: []cbor.Item{{}}})
	invalidInside(t, cbor.Item{Kind: cbor.Array, Bytes: []byte{0}})
	invalidInside(t, cbor.Item{Kind: cbor.Map, Number: 1, Kids: kids})
	invalidInside(t, cbor.Item{Kind: cbor.Array, Number: 2, Kids: kids})
	invalidInside(t, cbor.Item{Kind: cbor.Bytes, Number: 1, Bytes: []byte{1}})
}

func TestEmptyAndNil(t *testing.T) {
	for kind := range 6 {
		want := []byte{byte(32 * kind)}
		for _, x := range []cbor.Item{{Kind: kind}, {Kind: kind, Bytes: []byte{}}, {Kind: kind, Kids: []cbor.Item{}}, {Kind: kind, Bytes: []byte{}, Kids: []cbor.Item{}}} {
			good(t, x, want)
			good(t, array(x, x), []byte{130, want[0], want[0]})
			good(t, pairs(x, x), []byte{161, want[0], want[0]})
			if !cbor.Same(x, cbor.Item{Kind: kind}) || !cbor.Same(cbor.Item{Kind: kind}, x) || !cbor.Same(array(x), array(cbor.Item{Kind: kind})) {
				t.Errorf("Same of %s with nothing", show(x))
			}
		}
	}
}

func TestBytesOfTexts(t *testing.T) {
	for c := range 256 {
		for _, n := range []int{1, 2, 3, 23, 24, 100, 256} {
			for _, at := range []int{0, 1, n / 2, n - 2, n - 1} {
				if at < 0 || at >= n {
					continue
				}
				x := letters(n)
				x.Bytes[at] = byte(c)
				y := octets(x.Bytes...)
				b := slices.Concat(headOf(cbor.Text, uint64(n)), x.Bytes)
				good(t, y, slices.Concat(headOf(cbor.Bytes, uint64(n)), x.Bytes))
				if c >= 32 && c <= 126 {
					good(t, x, b)
					continue
				}
				invalid(t, x)
				invalid(t, array(pos(0), x))
				invalid(t, pairs(x, pos(0)))
				bad(t, b, api.Syntax, len(b)-n+at)
			}
		}
	}
	for _, s := range []string{" ~", "~ ", "   ", "~~~", printable} {
		good(t, text(s), slices.Concat(headOf(cbor.Text, uint64(len(s))), []byte(s)))
	}
	for _, s := range []string{"\x1f", "\x7f", "\n", "\x00", "\x80", "\xff", "\xc3\xa9", "a\x1f", "\x7fa", "ab\x1f\x7f", "~\x7f~"} {
		invalidInside(t, text(s))
	}
}

func TestFirstWrongByteOfAText(t *testing.T) {
	badInside(t, []byte{97, 31}, api.Syntax, 1)
	badInside(t, []byte{97, 127}, api.Syntax, 1)
	badInside(t, []byte{99, 31, 127, 0}, api.Syntax, 1)
	badInside(t, []byte{99, 'a', 127, 31}, api.Syntax, 2)
	badInside(t, []byte{99, 'a', 'b', 31}, api.Syntax, 3)
	badInside(t, []byte{99, 32, 126, 127, 0, 0}, api.Syntax, 3)
	badInside(t, append([]byte{120, 24, 200}, letters(23).Bytes...), api.Syntax, 2)
	// What is missing comes first.
	badInside(t, []byte{99, 31, 127}, api.Truncated, 3)
	badInside(t, []byte{120, 23, 31}, api.Length, 0)
	// Not a byte of the item behind the Text.
	badInside(t, []byte{130, 97, 'a', 64, 64}, api.Trailing, 4)
}

// P10.1 and P10.3: keys of maps

func TestKeysInOrder(t *testing.T) {
	// Each key comes after those before it.
	keys := []cbor.Item{
		pos(0), pos(1), pos(9), pos(23), pos(24), pos(25), pos(255), pos(256), pos(65535), pos(65536), pos(1<<32 - 1), pos(1 << 32), pos(1<<64 - 1),
		neg(0), neg(1), neg(23), neg(24), neg(255), neg(256), neg(1<<64 - 1),
		octets(), octets(0), octets(1), octets(255), octets(0, 0), octets(0, 1), octets(1, 0), octets(0, 0, 0), octets(some(24)...), octets(some(256)...),
		text(""), text(" "), text("a"), text("b"), text("aa"), text("ab"), text("b "), text("aaa"), letters(24), letters(65536),
		array(), array(pos(0)), array(pos(1)), array(pos(24)), array(neg(0)), array(octets()), array(text("a")), array(array()), array(array(pos(1))), array(pairs()), array(pairs(pos(0), pos(0))), array(pos(0), pos(0)), array(pos(0), pos(1)), array(pos(1), pos(0)), array(pairs(), pos(0)), array(pos(0), pos(0), pos(0)),
		pairs(), pairs(pos(0), pos(0)), pairs(pos(0), pos(1)), pairs(pos(1), pos(0)), pairs(text("a"), array()), pairs(pairs(), pos(0)), pairs(pos(0), pos(0), pos(1), pos(0)), pairs(pos(0), array(pos(7)), pos(1), pos(0)), pairs(pos(1), pos(0), pos(2), pos(0)),
	}
	var all []cbor.Item
	for i, a := range keys {
		all = append(all, a, pos(uint64(i)))
		for j, b := range keys {
			x := pairs(a, pos(1), b, array())
			bytes := encoded(x)
			if i < j {
				good(t, x, bytes)
				good(t, array(x), append([]byte{129}, bytes...))
				continue
			}
			invalid(t, x)
			invalid(t, array(pos(0), x))
			invalid(t, pairs(x, pos(0)))
			bad(t, bytes, api.Order, 2+len(encoded(a)))
			bad(t, append([]byte{130, 0}, bytes...), api.Order, 4+len(encoded(a)))
			bad(t, append([]byte{161}, bytes...), api.Order, 3+len(encoded(a)))
		}
	}
	good(t, pairs(all...), encoded(pairs(all...)))
}

func TestKeysOutOfOrderAtEachPlace(t *testing.T) {
	for n := 2; n < 30; n++ {
		for i := 1; i < n; i++ {
			for j := range i {
				// The key at i is one of those before it.
				x := counted(n)
				x.Kids[2*i].Number = uint64(j)
				invalid(t, x)
				bad(t, encoded(x), api.Order, offset(x, 2*i))
			}
			x := counted(n)
			x.Kids[2*i], x.Kids[2*i-2] = x.Kids[2*i-2], x.Kids[2*i]
			invalid(t, x)
			bad(t, encoded(x), api.Order, offset(x, 2*i))
			// The key at i is less than all of them.
			x = counted(n)
			for j := range x.Kids {
				x.Kids[j].Kind = 1 - j%2
			}
			x.Kids[2*i].Kind = cbor.Uint
			invalid(t, x)
			bad(t, encoded(x), api.Order, offset(x, 2*i))
		}
	}
}

// offset returns the offset of a kid in the encoding of an item.
func offset(x cbor.Item, kid int) int {
	at := len(encoded(x))
	for _, y := range x.Kids[kid:] {
		at -= len(encoded(y))
	}
	return at
}

func errorOf(b []byte) error {
	_, err := cbor.Parse(b)
	return err
}

// The values of a Map need no order, and neither do the kids of an Array.
func TestValuesInAnyOrder(t *testing.T) {
	for _, x := range []cbor.Item{
		pairs(pos(1), pos(9), pos(2), pos(8)), pairs(pos(1), pos(9), pos(2), pos(9)), pairs(pos(1), pos(1), pos(2), pos(2)), pairs(pos(1), text("z"), pos(2), pos(0), pos(3), array()), pairs(pos(5), pos(0), pos(6), pos(0), pos(7), pos(0)),
		array(pos(9), pos(8)), array(pos(1), pos(1), pos(1), pos(1)), array(text("z"), neg(0), pos(0)), array(pairs(), pos(9), array(), pos(9)),
		// The order of keys begins anew in each Map.
		pairs(pos(1), pairs(pos(9), pos(0)), pos(2), pairs(pos(9), pos(0))), pairs(pos(8), pairs(pos(1), pos(0)), pos(9), pairs(pos(1), pos(0))), array(pairs(pos(9), pos(0)), pairs(pos(1), pos(0))), pairs(pairs(pos(9), pos(0)), pairs(pos(1), pos(0))),
	} {
		good(t, x, encoded(x))
		for way := range ways {
			y := wrap(way, x)
			good(t, y, encoded(y))
		}
	}
}

func TestKeysInMapsInside(t *testing.T) {
	wrong := []cbor.Item{pairs(pos(2), pos(0), pos(1), pos(0)), pairs(pos(1), pos(0), pos(1), pos(0)), pairs(pos(1), pos(0), pos(2), pos(0), pos(2), pos(1)), pairs(neg(0), pos(1), pos(0), pos(1)), pairs(text("aa"), pos(0), text("b"), pos(0)), pairs(array(), pos(0), text(""), pos(0))}
	for i, x := range wrong {
		at := []int{3, 3, 5, 3, 5, 3}[i]
		invalidInside(t, x)
		badInside(t, encoded(x), api.Order, at)
		// As a key, and as the key of a key.
		bad(t, slices.Concat([]byte{161}, encoded(x), []byte{0}), api.Order, 1+at)
		bad(t, slices.Concat([]byte{162, 0, 0, 161}, encoded(x), []byte{0, 0}), api.Order, 4+at)
	}
}

func TestMapsWithOddKids(t *testing.T) {
	for n := range 60 {
		x := counted(n + 1)
		x.Kids = x.Kids[:2*n+1]
		invalidInside(t, x)
		b := headOf(cbor.Map, uint64(n+1))
		for _, kid := range x.Kids {
			b = append(b, encoded(kid)...)
		}
		bad(t, b, api.Truncated, len(b))
	}
	invalidInside(t, pairs(pos(1)))
	invalidInside(t, pairs(pos(1), pos(2), pos(3)))
	invalidInside(t, pairs(cbor.Item{}))
}

// P10.1: depths

func TestDepths(t *testing.T) {
	for way := range ways {
		for depth := 1; depth <= 40; depth++ {
			x := chain(way, depth)
			b, _ := under(way, depth-1, []byte{0})
			if depth <= api.MaxDepth {
				good(t, x, b)
			} else {
				invalid(t, x)
				bad(t, b, api.TooDeep, firstTooDeep(way))
			}
			for _, y := range []cbor.Item{array(pos(0), x), array(x, pos(0)), pairs(x, pos(0)), pairs(pos(0), x), array(chain(way, min(depth, 7)), x, chain(0, 7)), pairs(pos(0), chain(0, 7), array(), x)} {
				if got := cbor.Valid(y); got != (depth < api.MaxDepth) {
					t.Errorf("Valid(%s): %v", show(y), got)
				}
			}
		}
	}
	// With an item at the end that could have kids, and one that has bytes.
	for _, end := range []cbor.Item{array(), pairs(), octets(1, 2), text("ab"), neg(500)} {
		for way := range ways {
			x := end
			for range 7 {
				x = wrap(way, x)
			}
			good(t, x, encoded(x))
			for inner := range ways {
				y := wrap(inner, x)
				invalid(t, y)
				invalid(t, array(y, x))
			}
		}
	}
}

func TestVeryDeepItems(t *testing.T) {
	for way := range ways {
		for _, depth := range []int{9, 10, 500, 999, 1000} {
			x, y := chain(way, depth), chain(way, depth)
			invalid(t, x)
			if !cbor.Same(x, y) || cbor.Same(x, array(y)) || cbor.Same(array(x), y) {
				t.Errorf("Same of depth %d", depth)
			}
			if got, ok := cbor.Get(pairs(pos(1), x), 1); !ok || !equal(got, y) {
				t.Errorf("Get of depth %d", depth)
			}
		}
	}
}

// An item whose kids are all the same slice has more items than could be counted.
func TestValidGivesUpInTime(t *testing.T) {
	for _, pack := range []func(...cbor.Item) cbor.Item{array, pairs} {
		x := pos(0)
		for range 999 {
			x = pack(x, x)
		}
		invalid(t, x)
		x = pos(0)
		for range 7 {
			x = pack(slices.Repeat([]cbor.Item{x}, 60000)...)
		}
		invalid(t, x)
	}
	// Keys of keys, as long as they may be.
	x := octets(some(api.MaxInput/4 - 100)...)
	y := octets(some(api.MaxInput/4 - 100)...)
	y.Bytes[0]++
	if x.Bytes[0] == 255 {
		x, y = y, x
	}
	for range 5 {
		x = pairs(x, pos(0))
		y = pairs(y, pos(0))
	}
	good(t, pairs(x, pos(0), y, pos(0)), encoded(pairs(x, pos(0), y, pos(0))))
	invalid(t, pairs(y, pos(0), x, pos(0)))
}

func TestSame(t *testing.T) {
	seven := []cbor.Item{pos(7)}
	unlike := []cbor.Item{
		{}, {Number: 1}, {Number: 2}, {Number: 1 << 63}, {Number: 1<<63 + 1}, {Bytes: []byte{0}}, {Bytes: []byte{0}, Number: 1}, {Kids: seven}, {Kids: seven, Number: 1}, {Kids: seven, Number: 1, Bytes: []byte{0}}, {Kids: seven, Bytes: []byte{0}},
		neg(0), neg(1), neg(7), octets(), octets(0), octets(1), octets(0, 0), octets(0, 1), octets(1, 0), text(""), text("a"), text("b"), text("ab"), text("ba"), text("abc"), text("\x00"), text("\xff"),
		array(), array(pos(0)), array(pos(7)), array(neg(7)), array(pos(7), pos(7)), array(pos(7), pos(8)), array(pos(8), pos(7)), array(octets()), array(text("")), array(text("a")), array(array()), array(pairs()), array(array(), pos(7)), array(pos(7), array()), array(array(pos(7))), array(array(pos(7)), pos(7)), array(array(pos(7), pos(7))),
		pairs(), pairs(pos(0)), pairs(pos(7)), pairs(pos(7), pos(7)), pairs(pos(8), pos(7)), pairs(pos(7), pos(8)), pairs(pos(7), pos(7), pos(8), pos(8)), pairs(pos(8), pos(8), pos(7), pos(7)), pairs(array(), array()), pairs(pairs(), pos(7)),
		{Kind: 6}, {Kind: 7}, {Kind: -1}, {Kind: 256}, {Kind: 1 << 32}, {Kind: 4, Number: 1, Kids: seven}, {Kind: 4, Bytes: []byte{0}, Kids: seven}, {Kind: 2, Bytes: []byte{0}, Kids: seven}, {Kind: 2, Bytes: []byte{0}, Kids: []cbor.Item{pos(8)}}, {Kind: 2, Number: 1, Bytes: []byte{0}},
		octets(some(70000)...), octets(some(70001)...), letters(3000), wide(3000), wide(3001), counted(1500), chain(0, 9), chain(1, 9), chain(2, 9), chain(3, 9), chain(0, 10),
	}
	for i, a := range unlike {
		for j, b := range unlike {
			if got := cbor.Same(a, copied(b)); got != (i == j) {
				t.Errorf("Same(%s, %s): %v", show(a), show(b), got)
			}
		}
	}
}

// copied returns an item in other memory, with lists that are empty and not nil
// in the place of nothing.
func copied(x cbor.Item) cbor.Item {
	c := cbor.Item{Kind: x.Kind, Number: x.Number, Bytes: append([]byte{}, x.Bytes...), Kids: []cbor.Item{}}
	for _, kid := range x.Kids {
		c.Kids = append(c.Kids, copied(kid))
	}
	return c
}

// items returns the addresses of all items of an item.
func items(x *cbor.Item) []*cbor.Item {
	l := []*cbor.Item{x}
	for i := range x.Kids {
		l = append(l, items(&x.Kids[i])...)
	}
	return l
}

func TestSameOfOneDifference(t *testing.T) {
	x := pairs(pos(1), array(text("ab"), array(octets(1, 2, 3), pairs(pos(1), neg(2)))), array(pos(3), array(array(pos(4)))), pairs(text("a"), pairs(neg(5), text("c"))))
	for way := range ways {
		for i := range items(&x) {
			for change := range 8 {
				y := copied(x)
				one := items(&y)[i]
				switch change {
				case 0:
					one.Kind++
				case 1:
					one.Kind += 1 << 32
				case 2:
					one.Number++
				case 3:
					one.Number ^= 1 << 63
				case 4:
					one.Bytes = append(one.Bytes, 0)
				case 5:
					one.Kids = append(one.Kids, pos(0))
				case 6:
					if len(one.Bytes) == 0 {
						continue
					}
					one.Bytes[len(one.Bytes)-1]++
				case 7:
					if len(one.Kids) == 0 {
						continue
					}
					one.Kids = one.Kids[:len(one.Kids)-1]
				}
				if cbor.Same(x, y) || cbor.Same(y, x) || cbor.Same(wrap(way, x), wrap(way, y)) {
					t.Errorf("Same with change %d of item %d", change, i)
				}
			}
		}
	}
	if !cbor.Same(x, copied(x)) || !cbor.Same(x, x) {
		t.Error("Same of a copy")
	}
}

// P10.3: errors

func TestTruncatedHeads(t *testing.T) {
	bad(t, nil, api.Truncated, 0)
	bad(t, []byte{}, api.Truncated, 0)
	bad(t, make([]byte, 5)[:0], api.Truncated, 0)
	for way := range ways {
		for above := 1; above <= 7; above++ {
			b, at := under(way, above, nil)
			bad(t, b, api.Truncated, at)
		}
		// Also where an item would be too deep.
		for _, front := range [][]byte{{129}, {161}, {152, 24}, {187, 1, 0, 0, 0, 0, 0, 0, 0}} {
			b, at := under(way, 7, front)
			bad(t, b, api.Truncated, at+len(front))
		}
	}
	for kind := range 6 {
		for i, size := range []int{1, 2, 4, 8} {
			for _, fill := range []byte{0, 1, 24, 255} {
				for n := range size {
					b := append([]byte{byte(32*kind + 24 + i)}, bytes.Repeat([]byte{fill}, n)...)
					badInside(t, b, api.Truncated, len(b))
				}
			}
		}
	}
}

func TestHeadsThatAreTooLong(t *testing.T) {
	for kind := range 6 {
		for _, l := range limits {
			for i, h := range heads(kind, l.n) {
				if i == 0 {
					if !bytes.Equal(h, head(kind, l.head)) {
						t.Fatal("the heads of these tests")
					}
					continue
				}
				badInside(t, h, api.Length, 0)
				badInside(t, append(h, some(30)...), api.Length, 0)
				badInside(t, append(h, 255), api.Length, 0)
			}
		}
	}
}

func TestWrongFirstBytes(t *testing.T) {
	for c := range 256 {
		b := []byte{byte(c)}
		judge(t, b)
		if c/32 <= 5 && c%32 <= 27 {
			continue
		}
		for _, more := range [][]byte{nil, {0}, {255}, some(8), some(30)} {
			badInside(t, slices.Concat(b, more), api.Syntax, 0)
			// Before it is too deep.
			for way := range ways {
				whole, at := under(way, 7, slices.Concat([]byte{129}, b, more))
				bad(t, whole, api.Syntax, at+1)
				whole[at] = 161
				bad(t, whole, api.Syntax, at+1)
			}
			// As a kid that is not the last one, a key and a value.
			bad(t, slices.Concat([]byte{131, 0}, b, more), api.Syntax, 2)
			bad(t, slices.Concat([]byte{162}, b, more), api.Syntax, 1)
			bad(t, slices.Concat([]byte{162, 1}, b, more), api.Syntax, 2)
			bad(t, slices.Concat([]byte{162, 1, 2}, b, more), api.Syntax, 3)
		}
	}
}

func TestNumbersThatAreTooGreat(t *testing.T) {
	for kind := cbor.Bytes; kind <= cbor.Map; kind++ {
		for _, l := range limits {
			h := head(kind, l.head)
			for _, n := range []int{0, 1, 2, 3, 22, 23, 24, 254, 255} {
				need := float64(l.n)
				if kind == cbor.Map {
					need *= 2
				}
				if float64(n) >= need {
					continue
				}
				b := slices.Clone(h)
				for i := range n {
					b = append(b, byte(i/2%24))
				}
				if kind == cbor.Map && n > 47 {
					continue
				}
				judge(t, b)
				bad(t, b, api.Truncated, len(b))
				for way := range ways {
					whole, _ := under(way, 3, b)
					bad(t, whole, api.Truncated, len(whole))
				}
			}
		}
	}
	// More than is left for the kid, but not more than the whole string has.
	bad(t, []byte{130, 66, 1}, api.Truncated, 3)
	bad(t, []byte{130, 99, 'a', 'b'}, api.Truncated, 4)
	good(t, array(octets(1, 2), pos(3)), []byte{130, 66, 1, 2, 3})
	bad(t, []byte{130, 67, 1, 2, 3}, api.Truncated, 5)
	bad(t, []byte{130, 68, 1, 2, 3}, api.Truncated, 5)
	bad(t, []byte{130, 131, 1, 2, 3}, api.Truncated, 5)
	bad(t, []byte{130, 132, 1, 2, 3}, api.Truncated, 5)
	bad(t, []byte{162, 1, 2, 3}, api.Truncated, 4)
	bad(t, []byte{162, 1, 2}, api.Truncated, 3)
	bad(t, []byte{162, 1}, api.Truncated, 2)
	bad(t, []byte{162}, api.Truncated, 1)
}

// Twice a number of pairs, or a number and an offset, may be a small number
// where 64 bits do not suffice.
func TestNumbersThatWrap(t *testing.T) {
	for _, low := range []byte{0, 1, 2, 3} {
		for _, high := range []byte{127, 128, 192, 255} {
			n := []byte{high, 0, 0, 0, 0, 0, 0, low}
			rest := []byte{1, 2, 3, 4}
			for kind := cbor.Bytes; kind <= cbor.Map; kind++ {
				b := append([]byte{byte(32*kind + 27)}, n...)
				bad(t, b, api.Truncated, 9)
				bad(t, append(b, rest...), api.Truncated, 13)
				if kind == cbor.Text {
					bad(t, append(b, 31), api.Truncated, 10)
				}
			}
		}
	}
	for back := range byte(20) {
		for kind := cbor.Bytes; kind <= cbor.Map; kind++ {
			b := []byte{byte(32*kind + 27), 255, 255, 255, 255, 255, 255, 255, 255 - back}
			bad(t, b, api.Truncated, 9)
			bad(t, append([]byte{130, 0}, b...), api.Truncated, 11)
		}
	}
}

func TestWhichErrorIsFirst(t *testing.T) {
	for _, x := range []struct {
		b    []byte
		code api.Code
		at   int
	}{
		// An item before another one.
		{[]byte{130, 24, 1, 28}, api.Length, 1}, {[]byte{130, 28, 24, 1}, api.Syntax, 1}, {[]byte{130, 97, 31, 28}, api.Syntax, 2}, {[]byte{130, 0, 28, 255}, api.Syntax, 2},
		{[]byte{130, 66, 24}, api.Truncated, 3}, {[]byte{131, 24, 1}, api.Length, 1}, {[]byte{155, 0, 0, 0, 1, 0, 0, 0, 0, 28}, api.Syntax, 9},
		// The number of an item before what is in it.
		{[]byte{152, 1, 28}, api.Length, 0}, {[]byte{184, 1, 28}, api.Length, 0}, {[]byte{120, 1, 31}, api.Length, 0}, {[]byte{88, 5}, api.Length, 0}, {[]byte{153, 0}, api.Truncated, 2}, {[]byte{185, 0}, api.Truncated, 2},
		// A key before its order, its order before its value, and its value before the next key.
		{[]byte{162, 1, 2, 24, 0, 28}, api.Length, 3}, {[]byte{162, 1, 2, 0, 28}, api.Order, 3}, {[]byte{162, 1, 2, 1, 28}, api.Order, 3}, {[]byte{162, 1, 2, 1}, api.Order, 3}, {[]byte{162, 1, 28, 0, 0}, api.Syntax, 2}, {[]byte{162, 1, 2, 2, 28}, api.Syntax, 4}, {[]byte{162, 1, 24, 1, 1, 0}, api.Length, 2},
		{[]byte{162, 98, 'a', 'b', 0, 97, 31}, api.Syntax, 6}, {[]byte{162, 98, 'a', 'b', 0, 97}, api.Truncated, 6}, {[]byte{162, 97, 'b', 0, 97, 'a', 28}, api.Order, 4}, {[]byte{162, 130, 2, 1, 0, 130, 1}, api.Truncated, 7}, {[]byte{162, 130, 2, 1, 0, 130, 1, 28}, api.Syntax, 7}, {[]byte{162, 130, 2, 1, 0, 130, 1, 0}, api.Order, 5},
		// The first of several keys, and the Map inside before the one outside.
		{[]byte{164, 1, 0, 1, 0, 0, 0, 0, 0}, api.Order, 3}, {[]byte{163, 1, 0, 2, 0, 2, 0}, api.Order, 5}, {[]byte{162, 9, 162, 1, 0, 0, 0, 1, 0}, api.Order, 5}, {[]byte{162, 9, 0, 1, 162, 1, 0, 0, 0}, api.Order, 3}, {[]byte{162, 161, 1, 0, 0, 162, 1, 0, 0, 0}, api.Order, 8}, {[]byte{162, 161, 1, 0, 0, 161, 0, 0, 28}, api.Order, 5},
		// A very great number of pairs or kids with an error in those that are there.
		{[]byte{187, 255, 255, 255, 255, 255, 255, 255, 255, 1, 0, 1, 0}, api.Order, 11}, {[]byte{187, 128, 0, 0, 0, 0, 0, 0, 0, 28}, api.Syntax, 9},
		// All of them before what comes after the item.
		{[]byte{24, 1, 0}, api.Length, 0}, {[]byte{97, 31, 0}, api.Syntax, 1}, {[]byte{162, 1, 0, 1, 0, 0}, api.Order, 3}, {[]byte{129, 0, 28}, api.Trailing, 2}, {[]byte{160, 24, 1}, api.Trailing, 1},
	} {
		badInside(t, x.b, x.code, x.at)
		judge(t, x.b)
	}
}

func TestTooDeep(t *testing.T) {
	deep := [][]byte{{0}, {0, 0}, {32}, {64}, {66, 1}, {97, 31}, {96}, {128}, {129}, {129, 28}, {160}, {162, 1, 0, 1, 0}, {24}, {24, 1}, {25, 0}, {27, 255}, {59, 0, 0, 0, 0, 0, 0, 0, 0}, {155, 255, 255, 255, 255, 255, 255, 255, 255}}
	fronts := [][]byte{{129}, {130}, {152, 24}, {155, 255, 255, 255, 255, 255, 255, 255, 255}, {161}, {162}, {185, 1, 0}}
	for way := range ways {
		for _, end := range deep {
			for _, front := range fronts {
				b, at := under(way, 7, slices.Concat(front, end))
				bad(t, b, api.TooDeep, at+len(front))
			}
			for inner := range ways {
				b, at := under(way, 7, slices.Concat(before(inner), end))
				bad(t, b, api.TooDeep, at+1)
			}
			b, _ := under(way, 12, end)
			bad(t, b, api.TooDeep, firstTooDeep(way))
		}
		// An error that is met before it.
		b, at := under(way, 7, []byte{152, 1, 0})
		bad(t, b, api.Length, at)
		b, at = under(way, 6, []byte{130, 24, 1, 129, 0})
		bad(t, b, api.Length, at+1)
		b, at = under(way, 5, []byte{162, 129, 2, 0, 1, 129, 129, 0})
		bad(t, b, api.Order, at+4)
		// Errors that would be met after it: the order of a key, and a byte behind.
		b, at = under(way, 6, []byte{162, 160, 0, 129, 129, 0})
		bad(t, b, api.TooDeep, at+4)
		b, at = under(way, 7, []byte{129, 0, 0, 28})
		bad(t, b, api.TooDeep, at+1)
	}
}

func TestDeepStrings(t *testing.T) {
	for way := range ways {
		n := api.MaxInput / len(before(way))
		b, _ := under(way, n, nil)
		judge(t, b)
		bad(t, b, api.TooDeep, firstTooDeep(way))
	}
}

func TestTrailing(t *testing.T) {
	for _, x := range []cbor.Item{pos(0), pos(23), pos(24), pos(1<<64 - 1), neg(5), octets(), octets(1, 2), text("ab"), letters(300), array(), array(pos(1)), pairs(), pairs(pos(1), pos(2)), chain(0, 8), chain(3, 8), wide(1000), counted(1000)} {
		b, _ := cbor.Encode(x)
		for _, more := range [][]byte{{0}, {28}, {255}, {24}, {24, 1}, {0, 0}, b, make([]byte, 1000)} {
			bad(t, slices.Concat(b, more), api.Trailing, len(b))
		}
	}
	size := api.MaxInput - 6
	b := append([]byte{90, 0, 15, 255, 250}, make([]byte, size+1)...)
	bad(t, b, api.Trailing, api.MaxInput-1)
	good(t, octets(make([]byte, size)...), b[:len(b)-1])
}

func TestTooLong(t *testing.T) {
	most := make([]byte, api.MaxInput)
	bad(t, most, api.Trailing, 1)
	most[0] = 28
	bad(t, most, api.Syntax, 0)
	copy(most, []byte{90, 0, 15, 255, 252})
	bad(t, most, api.Truncated, api.MaxInput)
	copy(most, []byte{154, 0, 15, 255, 252})
	bad(t, most, api.Truncated, api.MaxInput)
	copy(most, []byte{90, 0, 15, 255, 251})
	good(t, octets(most[5:]...), most)
	copy(most, []byte{154, 0, 15, 255, 251})
	good(t, array(make([]cbor.Item, api.MaxInput-5)...), most)

	for _, more := range []int{1, 2, 1000, api.MaxInput, 1 << 24} {
		b := make([]byte, api.MaxInput+more)
		bad(t, b, api.TooLong, api.MaxInput)
		b[0] = 28
		bad(t, b, api.TooLong, api.MaxInput)
		copy(b, []byte{90, 0, 15, 255, 251})
		bad(t, b, api.TooLong, api.MaxInput)
		copy(b, headOf(cbor.Bytes, uint64(len(b)-5)))
		bad(t, b, api.TooLong, api.MaxInput)
		copy(b, headOf(cbor.Array, uint64(len(b)-5)))
		bad(t, b, api.TooLong, api.MaxInput)
	}
}

func TestErrorsAreFaults(t *testing.T) {
	for _, b := range [][]byte{nil, {28}, {24, 0}, {0, 0}, {162, 1, 0, 0, 0}, make([]byte, api.MaxInput+1)} {
		err := errorOf(b)
		var f api.Fault
		if !errors.As(err, &f) || !errors.Is(err, f.Code) || err.Error() != f.Code.Error() {
			t.Errorf("%v: %#v", first(b), err)
		}
	}
}

// P10.4: Int, Value and Get

func TestIntAndValue(t *testing.T) {
	for _, x := range []struct {
		n int64
		x cbor.Item
	}{
		{0, pos(0)}, {1, pos(1)}, {23, pos(23)}, {24, pos(24)}, {65536, pos(65536)}, {1<<31 - 1, pos(1<<31 - 1)}, {1 << 31, pos(1 << 31)}, {1 << 32, pos(1 << 32)}, {math.MaxInt64 - 1, pos(1<<63 - 2)}, {math.MaxInt64, pos(1<<63 - 1)},
		{-1, neg(0)}, {-2, neg(1)}, {-24, neg(23)}, {-25, neg(24)}, {-1 << 31, neg(1<<31 - 1)}, {-1<<31 - 1, neg(1 << 31)}, {-1 << 32, neg(1<<32 - 1)}, {math.MinInt64 + 1, neg(1<<63 - 2)}, {math.MinInt64, neg(1<<63 - 1)},
	} {
		if got := cbor.Int(x.n); !equal(got, x.x) {
			t.Errorf("Int(%d): %s", x.n, show(got))
		}
		if got, ok := cbor.Value(x.x); got != x.n || !ok {
			t.Errorf("Value(%s): %d, %v, want %d", show(x.x), got, ok, x.n)
		}
		good(t, cbor.Int(x.n), encoded(x.x))
	}
	for n := int64(-70000); n < 70000; n++ {
		if got, ok := cbor.Value(cbor.Int(n)); got != n || !ok {
			t.Fatalf("Value(Int(%d)): %d, %v", n, got, ok)
		}
	}
}

func TestNoValue(t *testing.T) {
	for _, x := range []cbor.Item{
		pos(1 << 63), pos(1<<63 + 1), pos(1<<64 - 2), pos(1<<64 - 1), neg(1 << 63), neg(1<<63 + 1), neg(1<<64 - 2), neg(1<<64 - 1),
		octets(), octets(5), text(""), text("5"), array(), array(pos(5)), pairs(), pairs(pos(5), pos(5)),
		{Kind: 2, Number: 5}, {Kind: 3, Number: 5}, {Kind: 4, Number: 5}, {Kind: 5, Number: 5}, {Kind: 6, Number: 5}, {Kind: 7}, {Kind: -1, Number: 5}, {Kind: 256, Number: 5}, {Kind: 257, Number: 5}, {Kind: math.MinInt, Number: 5},
	} {
		if got, ok := cbor.Value(x); got != 0 || ok {
			t.Errorf("Value(%s): %d, %v", show(x), got, ok)
		}
	}
}

// found checks Get of a key that is there, and missing of one that is not.
func found(t *testing.T, x cbor.Item, key int64, want cbor.Item) {
	t.Helper()
	if got, ok := cbor.Get(x, key); !equal(got, want) || !ok {
		t.Errorf("Get(%s, %d): %s, %v, want %s", show(x), key, show(got), ok, show(want))
	}
}

func missing(t *testing.T, x cbor.Item, keys ...int64) {
	t.Helper()
	for _, key := range keys {
		if got, ok := cbor.Get(x, key); !equal(got, cbor.Item{}) || ok {
			t.Errorf("Get(%s, %d): %s, %v", show(x), key, show(got), ok)
		}
	}
}

func TestGet(t *testing.T) {
	x := pairs(pos(0), text("zero"), pos(1), pos(7), pos(3), array(pos(1), octets(9)), pos(1<<63-1), neg(4), neg(0), octets(5), neg(1), pairs(pos(1), pos(2)), neg(1<<63-1), pos(6), text("1"), pos(8))
	found(t, x, 0, text("zero"))
	found(t, x, 1, pos(7))
	found(t, x, 3, array(pos(1), octets(9)))
	found(t, x, math.MaxInt64, neg(4))
	found(t, x, -1, octets(5))
	found(t, x, -2, pairs(pos(1), pos(2)))
	found(t, x, math.MinInt64, pos(6))
	missing(t, x, 2, 4, 5, 7, 8, -3, -4, -5, math.MaxInt64-1, math.MinInt64+1, 256, 257, 1<<32, 1<<32+1)
	for n := range 300 {
		y := counted(n)
		for key := range n {
			found(t, y, int64(key), pos(uint64(key%24)))
		}
		missing(t, y, int64(n), int64(n+1), -1)
	}
	missing(t, pairs(), 0, 1, -1)
	missing(t, cbor.Item{Kind: cbor.Map, Kids: []cbor.Item{}}, 0, 1, -1)
	// A value that is a zero Item is there.
	found(t, pairs(pos(1), cbor.Item{}), 1, cbor.Item{})
	// A value is no key, and keys of a Map inside do not count.
	missing(t, pairs(pos(1), pos(2), pos(3), pos(4)), 2, 4)
	missing(t, pairs(pos(1), pairs(pos(2), pos(3))), 2)
	missing(t, pairs(pairs(pos(2), pos(3)), pos(4)), 2, 3)
}

func TestGetOfOtherKeys(t *testing.T) {
	five := pos(5)
	// Keys whose fields are nearly those of 1 and of -2.
	for _, key := range []cbor.Item{
		octets(1), text("1"), array(pos(1)), pairs(pos(1), pos(1)), array(), pairs(), octets(), text(""), {Kind: 2, Number: 1}, {Kind: 3, Number: 1}, {Kind: 4, Number: 1}, {Kind: 5, Number: 1}, {Kind: 6, Number: 1}, {Kind: -1, Number: 1}, {Kind: 256, Number: 1},
		{Kind: 0, Number: 1, Bytes: []byte{1}}, {Kind: 0, Number: 1, Kids: []cbor.Item{{}}}, {Kind: 1, Number: 1, Bytes: []byte{1}}, {Kind: 1, Number: 1, Kids: []cbor.Item{{}}},
		pos(1<<63 + 1), pos(1<<64 - 1), neg(1 << 63), neg(1<<64 - 1), neg(1<<64 - 2), neg(1<<63 + 1),
	} {
		x := pairs(key, five)
		missing(t, x, 1, -2, 0, -1, math.MaxInt64, math.MinInt64)
		found(t, pairs(key, five, pos(1), pos(9)), 1, pos(9))
		found(t, pairs(pos(1), pos(9), key, five), 1, pos(9))
	}
	missing(t, pairs(neg(1), five), 1, -1, 2)
	missing(t, pairs(pos(1), five), -2, -1, 2)
}

func TestGetOfMapsThatAreNotValid(t *testing.T) {
	// Of several ones the first one, in whatever order.
	found(t, pairs(pos(1), pos(5), pos(1), pos(6)), 1, pos(5))
	found(t, pairs(pos(2), pos(4), pos(1), pos(5), pos(2), pos(7), pos(1), pos(6)), 1, pos(5))
	found(t, pairs(neg(1), pos(5), pos(1), pos(6), neg(1), pos(7)), -2, pos(5))
	found(t, pairs(pos(1), pos(5), pos(1)), 1, pos(5))
	found(t, pairs(pos(9), pos(5), pos(1), pos(6), pos(9)), 9, pos(5))
	// A last key without a value does not count.
	missing(t, pairs(pos(1)), 1)
	missing(t, pairs(pos(2), pos(1), pos(1)), 1)
	missing(t, pairs(pos(2), pos(1), pos(3), pos(1), pos(1)), 1)
	found(t, pairs(pos(2), pos(3), pos(1)), 2, pos(3))
	// Values are what they are.
	odd := cbor.Item{Kind: 9, Number: 3, Bytes: []byte{1}, Kids: []cbor.Item{pairs(pos(1)), {Kind: -1, Bytes: []byte{2}}}}
	found(t, pairs(pos(1), odd), 1, odd)
	found(t, cbor.Item{Kind: cbor.Map, Number: 3, Bytes: []byte{1}, Kids: []cbor.Item{pos(1), pos(5)}}, 1, pos(5))
}

func TestGetOfOtherKinds(t *testing.T) {
	kids := []cbor.Item{pos(1), pos(5), neg(0), pos(6)}
	for _, kind := range []int{0, 1, 2, 3, 4, 6, 7, -1, 5 + 256, 5 + 1<<32, 5 - 256, math.MinInt + 5} {
		missing(t, cbor.Item{Kind: kind, Kids: kids}, 1, -1, 0)
		missing(t, cbor.Item{Kind: kind, Number: 1, Bytes: []byte{1}}, 1, -1, 0)
		missing(t, cbor.Item{Kind: kind}, 1, -1, 0)
	}
	found(t, cbor.Item{Kind: 5, Kids: kids}, 1, pos(5))
	found(t, cbor.Item{Kind: 5, Kids: kids}, -1, pos(6))
}

// P10.3 and P10.5: all strings of some bytes, and strings that are nearly valid

// each calls f with all strings of an alphabet with at most n bytes.
func each(alphabet []byte, n int, f func(b []byte)) {
	var grow func(b []byte)
	grow = func(b []byte) {
		f(b)
		if len(b) == n {
			return
		}
		for _, c := range alphabet {
			grow(append(b[:len(b):len(b)], c))
		}
	}
	grow(nil)
}

func TestAllShortStrings(t *testing.T) {
	seen := map[string]bool{}
	check := func(b []byte) {
		judge(t, b)
		if x, err := cbor.Parse(b); err == nil {
			if s := show(x); seen[s] {
				t.Errorf("%v has the item of another string", b)
			} else {
				seen[s] = true
			}
		}
	}
	each([]byte{0, 1, 23, 24, 25, 27, 28, 32, 64, 65, 97, 127, 129, 130, 160, 161, 162, 184, 192}, 4, check)
	clear(seen)
	each([]byte{0, 24, 33, 65, 97, 129, 162}, 6, check)
	clear(seen)
	each([]byte{1, 32, 161, 162, 163}, 8, check)
	all := make([]byte, 256)
	for i := range all {
		all[i] = byte(i)
	}
	clear(seen)
	each(all, 2, check)
	// Those of one byte, numbers of one byte after the head, Bytes, Texts, and
	// Arrays of one kid.
	if len(seen) != 52+2*(256-24)+256+95+52 {
		t.Errorf("%d strings of at most 2 bytes have an item", len(seen))
	}
}

// dice yields numbers that look random.
type dice uint64

func (d *dice) below(n int) int {
	*d = *d*6364136223846793005 + 1442695040888963407
	return int(uint64(*d)>>33) % n
}

// random returns a valid item of at most a depth.
func (d *dice) random(depth int) cbor.Item {
	kind := d.below(6)
	if depth == 1 {
		kind = d.below(4)
	}
	size := []int{0, 1, 2, 5, 22, 23, 24, 25, 60, 255, 256}[d.below(11)]
	switch kind {
	case cbor.Uint, cbor.Nint:
		return cbor.Item{Kind: kind, Number: limits[d.below(len(limits))].n}
	case cbor.Bytes:
		return octets(some(size)...)
	case cbor.Text:
		return letters(size)
	case cbor.Array:
		x := array()
		for range d.below(6) {
			x.Kids = append(x.Kids, d.random(depth-1))
		}
		return x
	}
	return d.randomMap(depth)
}

// randomMap returns a valid Map, whose keys are sorted by their encodings.
func (d *dice) randomMap(depth int) cbor.Item {
	var keys []cbor.Item
	for range d.below(6) {
		keys = append(keys, d.random(min(depth-1, 1+d.below(3))))
	}
	slices.SortFunc(keys, func(a, b cbor.Item) int { return strings.Compare(string(encoded(a)), string(encoded(b))) })
	keys = slices.CompactFunc(keys, equal)
	x := pairs()
	for _, key := range keys {
		x.Kids = append(x.Kids, key, d.random(depth-1))
	}
	return x
}

func TestRandomItems(t *testing.T) {
	d := dice(1)
	for range 4000 {
		x := d.random(8)
		b := encoded(x)
		good(t, x, b)
		for range 5 {
			judge(t, d.spoiled(b))
		}
		judge(t, b[:d.below(len(b))])
		if kids := x.Kids; len(kids) > 1 {
			i, j := d.below(len(kids)), d.below(len(kids))
			y := copied(x)
			y.Kids[i], y.Kids[j] = y.Kids[j], y.Kids[i]
			judge(t, encoded(y))
			if _, err := read(encoded(y)); err != nil {
				invalid(t, y)
			}
		}
	}
}

// spoiled returns b with a byte changed, taken out or put in near its heads.
func (d *dice) spoiled(b []byte) []byte {
	at := d.below(min(len(b), 1+d.below(len(b))))
	c := []byte{0, 1, 23, 24, 25, 26, 27, 28, 31, 127, 192, 255, b[at] + 1, b[at] - 1, b[at] ^ 32, b[at] ^ 64}[d.below(16)]
	switch b = bytes.Clone(b); d.below(3) {
	case 0:
		return slices.Delete(b, at, at+1)
	case 1:
		return slices.Insert(b, at, c)
	}
	b[at] = c
	return b
}

// Rules 4 to 8

// spoil changes every byte of b and of its unused capacity.
func spoil(b []byte) {
	b = b[:cap(b)]
	for i := range b {
		b[i] ^= 0xff
	}
}

func example() (cbor.Item, []byte) {
	x := pairs(pos(1), octets(some(3)...), pos(2), array(text("ab"), octets(8), array(), pairs(pos(3), octets(4, 5))), neg(0), letters(300), array(text("key"), octets(1)), pairs(octets(2, 3), text("value")))
	return x, encoded(x)
}

func TestParseKeepsNothing(t *testing.T) {
	x, b := example()
	held := append(append([]byte{}, b...), 1, 2, 3, 4)
	got, err := cbor.Parse(held[:len(b)])
	if err != nil || !bytes.Equal(held, append(bytes.Clone(b), 1, 2, 3, 4)) {
		t.Errorf("Parse has changed its argument: %v, %v", err, held)
	}
	spoil(held)
	if !equal(got, x) {
		t.Error("a change of the string has changed the item")
	}
}

// spoilItem changes what a caller could change of an item, and its unused
// capacity.
func spoilItem(x *cbor.Item) {
	spoil(x.Bytes)
	free := x.Kids[len(x.Kids):cap(x.Kids)]
	for i := range free {
		free[i] = octets(255, 1)
	}
}

func TestPartsOfAResultShareNothing(t *testing.T) {
	_, b := example()
	results := []func() cbor.Item{
		func() cbor.Item { x, _ := cbor.Parse(b); return x },
		func() cbor.Item { x, _ := cbor.Get(pairs(pos(1), mustParse(b)), 1); return x },
	}
	for _, result := range results {
		x := result()
		for i := range items(&x) {
			got := result()
			spoilItem(items(&got)[i])
			want, _ := example()
			spoil(items(&want)[i].Bytes)
			if !equal(got, want) {
				t.Errorf("a change of item %d has changed another one", i)
			}
		}
		first, second := result(), result()
		for _, one := range items(&first) {
			spoilItem(one)
			*one = cbor.Item{Kind: 9}
		}
		if want, _ := example(); !equal(second, want) {
			t.Error("a change of one result has changed another one")
		}
	}
}

func mustParse(b []byte) cbor.Item {
	x, _ := cbor.Parse(b)
	return x
}

// Kids that share memory in the argument of Get share none in its result.
func TestGetOfSharedKids(t *testing.T) {
	inner := []cbor.Item{octets(1, 2, 3)}
	x := pairs(pos(1), array(array(inner...), array(inner...), inner[0]))
	got, _ := cbor.Get(x, 1)
	got.Kids[0].Kids[0].Bytes[0] = 9
	got.Kids[1].Kids[0].Number = 8
	if !equal(got, array(array(octets(9, 2, 3)), array(cbor.Item{Kind: 2, Number: 8, Bytes: []byte{1, 2, 3}}), octets(1, 2, 3))) {
		t.Errorf("the items of a result share memory: %s", show(got))
	}
}

func TestGetKeepsNothing(t *testing.T) {
	want, _ := example()
	for key, value := range []cbor.Item{octets(some(5)...), letters(40), want, array(want, want), octets(1)} {
		x := pairs(pos(9), pos(9), pos(uint64(key)), roomy(value))
		was := full(x)
		got, ok := cbor.Get(x, int64(key))
		if !ok || full(x) != was {
			t.Error("Get has changed its argument")
		}
		again, _ := cbor.Get(x, int64(key))
		for _, one := range items(&again) {
			spoilItem(one)
			*one = cbor.Item{Kind: 9}
		}
		if full(x) != was || !equal(got, value) {
			t.Error("a change of the result has changed the argument, or another result")
		}
		for _, one := range items(&x) {
			spoilItem(one)
			*one = cbor.Item{Kind: 9}
		}
		if !equal(got, value) {
			t.Error("a change of the argument has changed the result")
		}
	}
}

// roomy gives all slices of an item some unused capacity.
func roomy(x cbor.Item) cbor.Item {
	c := cbor.Item{Kind: x.Kind, Number: x.Number, Bytes: append(make([]byte, 0, len(x.Bytes)+9), x.Bytes...), Kids: make([]cbor.Item, 0, len(x.Kids)+3)}
	for _, kid := range x.Kids {
		c.Kids = append(c.Kids, roomy(kid))
	}
	return c
}

// full is an item with its unused capacity, as a text.
func full(x cbor.Item) string {
	s := strconv.Itoa(x.Kind) + " " + strconv.FormatUint(x.Number, 10) + " " + hex(x.Bytes[:cap(x.Bytes)])
	for _, kid := range x.Kids[:cap(x.Kids)] {
		s += "{" + full(kid) + "}"
	}
	return s
}

func TestArgumentsStay(t *testing.T) {
	valid, _ := example()
	deep := valid
	for range 8 {
		deep = array(deep)
	}
	unordered := copied(valid)
	unordered.Kids[0], unordered.Kids[2] = unordered.Kids[2], unordered.Kids[0]
	for _, y := range []cbor.Item{valid, deep, unordered, {Kind: 4, Bytes: []byte{1}, Kids: []cbor.Item{valid}}, pos(5), neg(5), octets(5), letters(50)} {
		x := roomy(y)
		was := full(x)
		cbor.Valid(x)
		cbor.Same(x, x)
		cbor.Same(x, y)
		cbor.Value(x)
		cbor.Get(x, 1)
		cbor.Get(x, 7)
		got, _ := cbor.Encode(x)
		spoil(got)
		if full(x) != was {
			t.Errorf("%s has been changed", show(y))
		}
	}
}

func TestEncodingsAreCopies(t *testing.T) {
	whole, _ := example()
	for _, y := range []cbor.Item{pos(5), octets(), octets(1), octets(some(200)...), text("ab"), array(octets(1)), array(array(text("ab"))), pairs(octets(1), octets(2)), whole} {
		x := roomy(y)
		want := encoded(y)
		got, _ := cbor.Encode(x)
		again, _ := cbor.Encode(x)
		for _, one := range items(&x) {
			spoil(one.Bytes)
		}
		spoil(again)
		if !bytes.Equal(got, want) {
			t.Errorf("a change of %s, or of another result, has changed its encoding", show(y))
		}
	}
}

func TestAnswersStayTheSame(t *testing.T) {
	x, b := example()
	for range 3 {
		good(t, x, b)
		bad(t, b[:len(b)-1], api.Truncated, len(b)-1)
		bad(t, []byte{162, 1, 0, 0, 0}, api.Order, 3)
		invalid(t, chain(0, 9))
		found(t, x, -1, letters(300))
		missing(t, x, 3)
	}
}

func TestConcurrentCalls(t *testing.T) {
	x, b := example()
	long := append(bytes.Clone(b), 0)
	var all sync.WaitGroup
	for range 8 {
		all.Go(func() {
			for range 50 {
				good(t, x, b)
				bad(t, long, api.Trailing, len(b))
				found(t, x, 1, octets(some(3)...))
				if !cbor.Same(x, x) {
					t.Error("Same")
				}
			}
		})
	}
	all.Wait()
}
