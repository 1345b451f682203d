package der_test

import (
	"bytes"
	"slices"
	"strconv"
	"strings"
	"sync"
	"testing"

	"pyx/api"
	"pyx/der"
	"pyx/fault"
)

// leaf returns a simple node, and tree a composed one.
func leaf(tag byte, b ...byte) der.Node        { return der.Node{Tag: tag, Bytes: b} }
func tree(tag byte, kids ...der.Node) der.Node { return der.Node{Tag: tag, Kids: kids} }
func seq(kids ...der.Node) der.Node            { return tree(der.Sequence, kids...) }

// octets returns a simple node with n bytes.
func octets(n int) der.Node { return leaf(der.Octets, some(n)...) }

// some returns n bytes that look random.
func some(n int) []byte {
	b, seed := make([]byte, n), uint64(n)
	for i := range b {
		seed = seed*6364136223846793005 + 1442695040888963407
		b[i] = byte(seed >> 56)
	}
	return b
}

// filled returns a Sequence with n bytes of contents; n is not 1.
func filled(n int) der.Node {
	kids := make([]der.Node, 0, n/2)
	if n%2 == 1 {
		kids = append(kids, leaf(der.Integer, 9))
	}
	for range (n - n%2*3) / 2 {
		kids = append(kids, leaf(der.Null))
	}
	return seq(kids...)
}

// chain returns a node of a depth.
func chain(depth int) der.Node {
	n := leaf(der.Null)
	for range depth - 1 {
		n = seq(n)
	}
	return n
}

// within returns the encoding of a Sequence with these contents, fewer than 128.
func within(contents ...byte) []byte {
	return append([]byte{der.Sequence, byte(len(contents))}, contents...)
}

// under returns b below a number of Sequences, with some bytes behind it in the
// lowest of them.
func under(above int, b []byte, behind ...byte) []byte {
	b = append(bytes.Clone(b), behind...)
	for range above {
		b = within(b...)
	}
	return b
}

// equal compares two nodes without Same.
func equal(a, b der.Node) bool {
	return a.Tag == b.Tag && bytes.Equal(a.Bytes, b.Bytes) && slices.EqualFunc(a.Kids, b.Kids, equal)
}

// show is for messages.
func show(n der.Node) string {
	s := strconv.Itoa(int(n.Tag)) + "[" + strconv.Itoa(len(n.Bytes)) + "]"
	if len(n.Kids) > 20 {
		return s + "{" + strconv.Itoa(len(n.Kids)) + "}"
	}
	for _, kid := range n.Kids {
		s += "{" + show(kid) + "}"
	}
	return s
}

// head is the first bytes, for messages.
func head(b []byte) []byte { return b[:min(len(b), 40)] }

// isZero reports whether a node has nothing in it.
func isZero(n der.Node) bool { return n.Tag == 0 && len(n.Bytes) == 0 && len(n.Kids) == 0 }

// good checks that a node is valid and has an encoding.
func good(t *testing.T, n der.Node, want []byte) {
	t.Helper()
	if !der.Valid(n) {
		t.Errorf("%s is not valid", show(n))
	}
	if got, err := der.Encode(n); !bytes.Equal(got, want) || err != nil {
		t.Errorf("Encode(%s): %d bytes, %v, %v, want %d, %v", show(n), len(got), head(got), err, len(want), head(want))
	}
	if got, err := der.Parse(want); !equal(got, n) || err != nil {
		t.Errorf("Parse of %d bytes, %v: %s, %v, want %s", len(want), head(want), show(got), err, show(n))
	}
}

// invalid checks that a node is not valid and has no encoding.
func invalid(t *testing.T, n der.Node) {
	t.Helper()
	if der.Valid(n) {
		t.Errorf("%d with %d bytes and %d kids is valid", n.Tag, len(n.Bytes), len(n.Kids))
	}
	if got, err := der.Encode(n); len(got) != 0 || err != error(api.BadObject) {
		t.Errorf("Encode of %d with %d bytes and %d kids: %d bytes, %#v", n.Tag, len(n.Bytes), len(n.Kids), len(got), err)
	}
}

// bad checks the error of a string.
func bad(t *testing.T, b []byte, code api.Code, at int) {
	t.Helper()
	want := api.Fault{Code: code, At: at}
	if got, err := der.Parse(b); !isZero(got) || err != error(want) {
		t.Errorf("Parse of %d bytes, %v: %s, %#v, want %#v", len(b), head(b), show(got), err, want)
	}
}

// part is a part of a string that is read: its bytes that are left, and their
// offset.
type part struct {
	b  []byte
	at int
}

func (p *part) end() int { return p.at + len(p.b) }

func (p *part) cut(n int) part {
	front := part{p.b[:n], p.at}
	p.b, p.at = p.b[n:], p.at+n
	return front
}

// contents reads what step 3 and 4 of the chapter read, in another way than the
// program: a length is compared with how it is to be written.
func (p *part) contents() (part, error) {
	if len(p.b) == 0 {
		return part{}, fault.New(api.Truncated, p.end())
	}
	first, at := p.b[0], p.at
	if first == 128 || first > 131 {
		return part{}, fault.New(api.Length, at)
	}
	size := 1
	if first > 128 {
		size += int(first - 128)
	}
	if len(p.b) < size {
		return part{}, fault.New(api.Truncated, p.end())
	}
	field := p.cut(size).b
	length := int(first)
	if first > 128 {
		x, _ := strconv.ParseInt(hex(field[1:]), 16, 64)
		length = int(x)
	}
	if !bytes.Equal(field, lengthOf(length)) {
		return part{}, fault.New(api.Length, at)
	}
	if length > len(p.b) {
		return part{}, fault.New(api.Truncated, p.end())
	}
	return p.cut(length), nil
}

func hex(b []byte) string {
	var s strings.Builder
	for _, c := range b {
		s.WriteString(strconv.FormatInt(int64(c)+256, 16)[1:])
	}
	return s.String()
}

// lengthOf returns a length as it is to be written.
func lengthOf(n int) []byte {
	switch {
	case n < 128:
		return []byte{byte(n)}
	case n < 256:
		return []byte{129, byte(n)}
	case n < 65536:
		return []byte{130, byte(n / 256), byte(n)}
	}
	return []byte{131, byte(n / 65536), byte(n / 256), byte(n)}
}

// node reads a node as the chapter says.
func (p *part) node(above int) (der.Node, error) {
	if len(p.b) == 0 {
		return der.Node{}, fault.New(api.Truncated, p.end())
	}
	tag, at := p.b[0], p.at
	if slices.Contains([]byte{0, 31, 63, 95, 127, 159, 191, 223, 255}, tag) {
		return der.Node{}, fault.New(api.Syntax, at)
	}
	if above == 8 {
		return der.Node{}, fault.New(api.TooDeep, at)
	}
	p.cut(1)
	inner, err := p.contents()
	if err != nil {
		return der.Node{}, err
	}
	n := der.Node{Tag: tag}
	if tag/32%2 == 0 {
		n.Bytes = inner.b
		return n, nil
	}
	for len(inner.b) > 0 {
		kid, err := inner.node(above + 1)
		if err != nil {
			return der.Node{}, err
		}
		n.Kids = append(n.Kids, kid)
	}
	return n, nil
}

// judge compares Parse with the reading above, and what is accepted with Encode.
func judge(t *testing.T, b []byte) {
	t.Helper()
	p := part{b: b}
	n, err := p.node(0)
	if err == nil && len(p.b) > 0 {
		err = fault.New(api.Trailing, p.at)
	}
	if err != nil {
		code, _ := fault.Code(err)
		at, _ := fault.At(err)
		bad(t, b, code, at)
		return
	}
	good(t, n, b)
}

// P8.1 to P8.3: ordinary nodes

func TestNodes(t *testing.T) {
	for _, x := range []struct {
		n    der.Node
		want []byte
	}{
		{seq(leaf(der.Integer, 5)), []byte{48, 3, 2, 1, 5}},
		{leaf(der.Null), []byte{5, 0}},
		{leaf(der.Bits, 0, 255), []byte{3, 2, 0, 255}},
		{leaf(der.Octets, 48, 3, 2, 1, 5), []byte{4, 5, 48, 3, 2, 1, 5}},
		{seq(), []byte{48, 0}},
		{seq(seq(), seq(seq())), []byte{48, 6, 48, 0, 48, 2, 48, 0}},
		{seq(seq(leaf(der.OID, 42, 3), leaf(der.Null)), leaf(der.Bits, 0, 7)), []byte{48, 12, 48, 6, 6, 2, 42, 3, 5, 0, 3, 2, 0, 7}},
		{tree(160, leaf(128, 1), tree(49, leaf(12, 'x')), leaf(der.Integer)), []byte{160, 10, 128, 1, 1, 49, 3, 12, 1, 'x', 2, 0}},
	} {
		good(t, x.n, x.want)
	}
}

func TestTagsOfTheUniversalClass(t *testing.T) {
	if der.Integer != 2 || der.Bits != 3 || der.Octets != 4 || der.Null != 5 || der.OID != 6 || der.Sequence != 48 {
		t.Error("the constants of tags")
	}
}

func TestEveryTag(t *testing.T) {
	none := []int{0, 31, 63, 95, 127, 159, 191, 223, 255}
	for i := range 256 {
		tag, composed := byte(i), i/32%2 == 1
		simple, with := leaf(tag, 5, 0), tree(tag, leaf(der.Null))
		both := der.Node{Tag: tag, Bytes: []byte{5, 0}, Kids: []der.Node{leaf(der.Null)}}
		for _, above := range []func(der.Node) der.Node{func(n der.Node) der.Node { return n }, func(n der.Node) der.Node { return seq(leaf(der.Null), n) }} {
			invalid(t, above(both))
			switch {
			case slices.Contains(none, i):
				invalid(t, above(simple))
				invalid(t, above(with))
				invalid(t, above(leaf(tag)))
			case composed:
				invalid(t, above(simple))
			default:
				invalid(t, above(with))
			}
		}
		if slices.Contains(none, i) {
			bad(t, []byte{tag, 2, 5, 0}, api.Syntax, 0)
			bad(t, []byte{48, 6, 5, 0, tag, 2, 5, 0}, api.Syntax, 4)
			continue
		}
		n := simple
		if composed {
			n = with
		}
		good(t, n, []byte{tag, 2, 5, 0})
		good(t, seq(leaf(der.Null), n), []byte{48, 6, 5, 0, tag, 2, 5, 0})
		good(t, hollow(tag), []byte{tag, 0})
	}
}

// hollow returns a node with nothing in it, whose lists are empty and not nil.
func hollow(tag byte) der.Node {
	return der.Node{Tag: tag, Bytes: []byte{}, Kids: []der.Node{}}
}

func TestEachSizeOfContents(t *testing.T) {
	for _, x := range []struct {
		n      int
		length []byte
	}{
		{0, []byte{0}}, {1, []byte{1}}, {2, []byte{2}}, {126, []byte{126}}, {127, []byte{127}},
		{128, []byte{129, 128}}, {129, []byte{129, 129}}, {254, []byte{129, 254}}, {255, []byte{129, 255}},
		{256, []byte{130, 1, 0}}, {257, []byte{130, 1, 1}}, {65534, []byte{130, 255, 254}}, {65535, []byte{130, 255, 255}},
		{65536, []byte{131, 1, 0, 0}}, {65537, []byte{131, 1, 0, 1}}, {1000000, []byte{131, 15, 66, 64}},
	} {
		for _, tag := range []byte{der.Octets, 128, 192} {
			b := append([]byte{tag}, x.length...)
			good(t, leaf(tag, some(x.n)...), append(b, some(x.n)...))
		}
		if x.n == 1 {
			continue
		}
		b := append([]byte{48}, x.length...)
		if x.n%2 == 1 {
			b = append(b, 2, 1, 9)
		}
		b = append(b, bytes.Repeat([]byte{5, 0}, (x.n-x.n%2*3)/2)...)
		good(t, filled(x.n), b)
	}
}

func TestGreatestNodes(t *testing.T) {
	size := api.MaxInput - 5
	top := []byte{4, 131, 15, 255, 251}
	good(t, octets(size), append(bytes.Clone(top), some(size)...))
	invalid(t, octets(size+1))
	invalid(t, octets(2*api.MaxInput))
	invalid(t, octets(1<<24))

	top[0] = 48
	b := append(append(bytes.Clone(top), 2, 1, 9), bytes.Repeat([]byte{5, 0}, (size-3)/2)...)
	good(t, filled(size), b)
	invalid(t, filled(size+1))
	invalid(t, filled(2*api.MaxInput))

	kid := octets(size - 5)
	below := append([]byte{4, 131, 15, 255, 246}, kid.Bytes...)
	good(t, seq(kid), append(bytes.Clone(top), below...))
	invalid(t, seq(octets(size-4)))
	invalid(t, seq(octets(size)))
	invalid(t, seq(kid, leaf(der.Null)))
	invalid(t, seq(leaf(der.Null), kid))
	invalid(t, seq(octets(size/2), octets(size/2)))
	invalid(t, seq(seq(kid)))
	good(t, seq(octets(size-7), leaf(der.Null)), slices.Concat(top, []byte{4, 131, 15, 255, 244}, some(size-7), []byte{5, 0}))
}

// P8.1: nodes that are not valid

func TestNodesWithWrongContents(t *testing.T) {
	kid := []der.Node{leaf(der.Null)}
	wrong := []der.Node{
		{}, {Bytes: []byte{1}}, {Kids: kid}, {Tag: 31}, {Tag: 63}, {Tag: 255},
		{Tag: der.Sequence, Bytes: []byte{0}}, {Tag: der.Sequence, Bytes: []byte{5, 0}, Kids: kid},
		{Tag: der.Octets, Kids: kid}, {Tag: der.Octets, Bytes: []byte{5, 0}, Kids: kid}, {Tag: 32, Bytes: []byte{5}}, {Tag: 128, Kids: kid}, {Tag: 160, Bytes: []byte{5}},
		{Tag: der.Null, Kids: []der.Node{{}}}, {Tag: der.Sequence, Kids: []der.Node{{}}},
	}
	for _, n := range wrong {
		invalid(t, n)
		invalid(t, seq(n))
		invalid(t, seq(leaf(der.Integer, 1), n, leaf(der.Null)))
		invalid(t, seq(seq(), tree(160, leaf(der.Null), seq(n))))
		for above := range 9 {
			for range above {
				n = seq(n)
			}
			invalid(t, n)
		}
	}
}

func TestEmptyAndNil(t *testing.T) {
	for _, tag := range []byte{der.Null, der.Octets, 128, der.Sequence, 160} {
		for _, n := range []der.Node{{Tag: tag}, {Tag: tag, Bytes: []byte{}}, {Tag: tag, Kids: []der.Node{}}, {Tag: tag, Bytes: []byte{}, Kids: []der.Node{}}} {
			good(t, n, []byte{tag, 0})
			good(t, seq(n, n), []byte{48, 4, tag, 0, tag, 0})
			if der.Depth(n) != 1 || der.Count(n) != 1 || !der.Same(n, der.Node{Tag: tag}) || !der.Same(der.Node{Tag: tag}, n) {
				t.Errorf("tag %d without contents", tag)
			}
		}
	}
}

func TestDepthsOfNodes(t *testing.T) {
	for depth := 1; depth <= 40; depth++ {
		n := chain(depth)
		ends := []der.Node{n, seq(leaf(der.Null), n), seq(n, leaf(der.Null)), seq(chain(min(depth, 7)), n)}
		for i, x := range ends {
			want := depth + min(i, 1)
			if i == 3 {
				want = depth + 1
			}
			if got := der.Depth(x); got != want {
				t.Errorf("Depth(%s): %d, want %d", show(x), got, want)
			}
			if got := der.Valid(x); got != (want <= api.MaxDepth) {
				t.Errorf("Valid(%s): %v", show(x), got)
			}
		}
	}
	b := []byte{48, 14, 48, 12, 48, 10, 48, 8, 48, 6, 48, 4, 48, 2, 5, 0}
	good(t, chain(8), b)
	good(t, chain(7), b[2:])
	invalid(t, chain(9))
	// The same depth, with a composed node at the end.
	b[14] = 48
	n := seq()
	for range 7 {
		n = seq(n)
	}
	good(t, n, b)
	invalid(t, seq(n))
}

func TestVeryDeepNodes(t *testing.T) {
	for _, depth := range []int{999, 1000, 1 << 16} {
		n, other := chain(depth), chain(depth)
		invalid(t, n)
		if der.Depth(n) != depth || der.Count(n) != depth || !der.Same(n, other) {
			t.Errorf("depth %d: Depth %d, Count %d, Same %v", depth, der.Depth(n), der.Count(n), der.Same(n, other))
		}
		if longer := seq(other); der.Same(n, longer) || der.Same(longer, n) {
			t.Errorf("depth %d is the same as %d", depth, depth+1)
		}
	}
}

// A tree whose kids are all the same slice has more nodes than could be counted.
func TestValidGivesUpInTime(t *testing.T) {
	n := leaf(der.Null)
	for range 999 {
		n = seq(n, n)
	}
	invalid(t, n)
	wide := octets(0)
	for range 7 {
		wide = seq(slices.Repeat([]der.Node{wide}, 60000)...)
	}
	invalid(t, wide)
}

func TestDepthAndCount(t *testing.T) {
	junk := der.Node{Tag: 0, Bytes: []byte{1}, Kids: []der.Node{{}, {Tag: 255, Kids: []der.Node{{Tag: 31, Bytes: some(9)}}}}}
	for _, x := range []struct {
		n            der.Node
		depth, count int
	}{
		{der.Node{}, 1, 1}, {leaf(der.Octets, 1, 2, 3), 1, 1}, {seq(), 1, 1}, {hollow(der.Sequence), 1, 1},
		{seq(seq()), 2, 2}, {seq(leaf(5), leaf(5), leaf(5)), 2, 4},
		{seq(seq(leaf(5)), leaf(5)), 3, 4}, {seq(leaf(5), seq(leaf(5))), 3, 4}, {seq(seq(seq(), seq()), seq(seq(seq())), seq()), 4, 8},
		{tree(der.Octets, leaf(5)), 2, 2}, {tree(0, leaf(0), leaf(0)), 2, 3}, {der.Node{Tag: 4, Bytes: []byte{1}, Kids: []der.Node{leaf(5)}}, 2, 2},
		{junk, 3, 4}, {seq(junk, junk), 4, 9}, {tree(63, tree(31, tree(255, junk))), 6, 7},
		{filled(1000), 2, 501}, {filled(3000000), 2, 1500001}, {octets(3000000), 1, 1},
	} {
		if depth, count := der.Depth(x.n), der.Count(x.n); depth != x.depth || count != x.count {
			t.Errorf("%s: Depth %d, Count %d, want %d and %d", show(x.n), depth, count, x.depth, x.count)
		}
	}
}

func TestSame(t *testing.T) {
	null := leaf(der.Null)
	unlike := []der.Node{
		{}, {Bytes: []byte{0}}, {Kids: []der.Node{{}}}, {Bytes: []byte{0}, Kids: []der.Node{{}}}, {Kids: []der.Node{{}, {}}},
		null, leaf(der.Octets), leaf(der.Octets, 0), leaf(der.Octets, 1), leaf(der.Octets, 0, 0), leaf(der.Octets, 0, 1), leaf(der.Octets, 1, 0), leaf(31, 1), leaf(255, 1), leaf(128, 1),
		seq(), seq(null), seq(null, null), seq(null, null, null), seq(leaf(der.Octets)), seq(seq()), seq(seq(null)), seq(seq(), null), seq(null, seq()), seq(seq(null), null), seq(seq(null, null)), seq(null, leaf(der.Octets, 1)), seq(leaf(der.Octets, 1), null),
		tree(160), tree(160, null), tree(der.Octets, null), tree(der.Octets, leaf(der.Octets)), leaf(der.Sequence, 5, 0), leaf(der.Sequence, 5),
		{Tag: der.Octets, Bytes: []byte{1}, Kids: []der.Node{null}}, {Tag: der.Octets, Bytes: []byte{2}, Kids: []der.Node{null}}, {Tag: der.Octets, Bytes: []byte{1}, Kids: []der.Node{seq()}},
		octets(70000), octets(70001), filled(3000), filled(3001), seq(octets(70000)), chain(8), chain(9), chain(10), tree(255, chain(9)),
	}
	for i, a := range unlike {
		for j, b := range unlike {
			if got := der.Same(a, copied(b)); got != (i == j) {
				t.Errorf("Same(%s, %s): %v", show(a), show(b), got)
			}
		}
	}
}

// copied returns a node in other memory, with lists that are empty and not nil
// in the place of nothing.
func copied(n der.Node) der.Node {
	c := der.Node{Tag: n.Tag, Bytes: append([]byte{}, n.Bytes...), Kids: []der.Node{}}
	for _, kid := range n.Kids {
		c.Kids = append(c.Kids, copied(kid))
	}
	return c
}

// P8.3: errors

func TestTruncatedTags(t *testing.T) {
	bad(t, nil, api.Truncated, 0)
	bad(t, []byte{}, api.Truncated, 0)
	bad(t, make([]byte, 5)[:0], api.Truncated, 0)
	// Where a part has ended, no further node is missing in it.
	good(t, seq(), []byte{48, 0})
	good(t, seq(seq(), seq(leaf(der.Null))), []byte{48, 6, 48, 0, 48, 2, 5, 0})
}

// Each string is read below each number of Sequences, with bytes behind it in
// the whole string that do not belong to its part.
func TestErrorsInEachPart(t *testing.T) {
	for _, x := range []struct {
		b    []byte
		code api.Code
		at   int
	}{
		{[]byte{4}, api.Truncated, 1}, {[]byte{48}, api.Truncated, 1},
		{[]byte{4, 128}, api.Length, 1}, {[]byte{4, 128, 0, 0}, api.Length, 1}, {[]byte{48, 128, 0, 0}, api.Length, 1},
		{[]byte{4, 132}, api.Length, 1}, {[]byte{4, 132, 0, 1, 0, 0}, api.Length, 1}, {[]byte{4, 133, 0}, api.Length, 1}, {[]byte{48, 255}, api.Length, 1}, {[]byte{4, 136, 0, 0, 0, 0, 0, 0, 0, 1, 7}, api.Length, 1},
		{[]byte{4, 129}, api.Truncated, 2}, {[]byte{4, 130}, api.Truncated, 2}, {[]byte{4, 131}, api.Truncated, 2},
		{[]byte{4, 130, 0}, api.Truncated, 3}, {[]byte{4, 130, 1}, api.Truncated, 3}, {[]byte{4, 131, 0}, api.Truncated, 3}, {[]byte{4, 131, 0, 0}, api.Truncated, 4}, {[]byte{48, 131, 1, 1}, api.Truncated, 4},
		{[]byte{4, 129, 0}, api.Length, 1}, {[]byte{4, 129, 1, 0}, api.Length, 1}, {[]byte{4, 129, 127}, api.Length, 1}, {[]byte{48, 129, 2, 5, 0}, api.Length, 1},
		{[]byte{4, 130, 0, 0}, api.Length, 1}, {[]byte{4, 130, 0, 1, 7}, api.Length, 1}, {[]byte{4, 130, 0, 128}, api.Length, 1}, {[]byte{4, 130, 0, 255}, api.Length, 1},
		{[]byte{4, 131, 0, 0, 0}, api.Length, 1}, {[]byte{4, 131, 0, 0, 1, 7}, api.Length, 1}, {[]byte{4, 131, 0, 1, 0}, api.Length, 1}, {[]byte{4, 131, 0, 255, 255}, api.Length, 1},
		{[]byte{4, 1}, api.Truncated, 2}, {[]byte{48, 1}, api.Truncated, 2}, {[]byte{4, 3, 7, 7}, api.Truncated, 4}, {[]byte{48, 3, 5, 0}, api.Truncated, 4}, {[]byte{4, 127}, api.Truncated, 2},
		{[]byte{4, 129, 128, 7}, api.Truncated, 4}, {[]byte{4, 130, 1, 0, 7}, api.Truncated, 5}, {[]byte{4, 131, 1, 0, 0, 7}, api.Truncated, 6}, {[]byte{4, 131, 255, 255, 255}, api.Truncated, 5}, {[]byte{48, 131, 255, 255, 255, 7}, api.Truncated, 6},
		{[]byte{0}, api.Syntax, 0}, {[]byte{31}, api.Syntax, 0}, {[]byte{63, 128}, api.Syntax, 0}, {[]byte{255, 132}, api.Syntax, 0}, {[]byte{0, 0, 0}, api.Syntax, 0},
	} {
		bad(t, x.b, x.code, x.at)
		for above := 1; above < 7; above++ {
			bad(t, under(above, x.b), x.code, 2*above+x.at)
			bad(t, under(above, append(append([]byte{5, 0}, within(x.b...)...), 5, 0)), x.code, 2*above+4+x.at)
			b := under(above-1, append(within(x.b...), 4, 3, 1, 1, 1))
			bad(t, b, x.code, 2*above+x.at)
			bad(t, append(b, 5, 0), x.code, 2*above+x.at)
		}
	}
}

func TestErrorsInKidsOfOneNode(t *testing.T) {
	// The contents of a kid end before, at and after the end of the part.
	good(t, seq(leaf(4, 7), leaf(5)), []byte{48, 5, 4, 1, 7, 5, 0})
	good(t, seq(leaf(4, 7, 5, 0)), []byte{48, 5, 4, 3, 7, 5, 0})
	bad(t, []byte{48, 5, 4, 4, 7, 5, 0}, api.Truncated, 7)
	bad(t, []byte{48, 5, 4, 4, 7, 5, 0, 7}, api.Truncated, 7)
	bad(t, []byte{48, 9, 48, 5, 48, 4, 7, 5, 0, 5, 0}, api.Truncated, 9)
	bad(t, []byte{48, 5, 4, 2, 7, 5, 5}, api.Truncated, 7)
	bad(t, []byte{48, 5, 4, 2, 7, 5, 0}, api.Syntax, 6)
	// A composed node ends before, at and after the end of its kids.
	bad(t, []byte{48, 1, 5, 0}, api.Truncated, 3)
	bad(t, []byte{48, 3, 5, 0, 5, 0}, api.Truncated, 5)
	bad(t, []byte{48, 4, 48, 1, 5, 0}, api.Truncated, 5)
	good(t, seq(leaf(5)), []byte{48, 2, 5, 0})
	bad(t, []byte{48, 3, 5, 0}, api.Truncated, 4)
	// The first error that reading meets.
	bad(t, []byte{48, 4, 4, 9, 0, 0}, api.Truncated, 6)
	bad(t, []byte{48, 4, 0, 0, 4, 128}, api.Syntax, 2)
	bad(t, []byte{48, 6, 4, 128, 0, 0, 4, 9}, api.Length, 3)
	bad(t, []byte{48, 6, 5, 0, 4, 128, 0, 0}, api.Length, 5)
	bad(t, []byte{48, 6, 48, 2, 31, 0, 0, 0}, api.Syntax, 4)
	bad(t, []byte{48, 5, 0, 0}, api.Truncated, 4)
	bad(t, []byte{48, 129, 4, 0, 0}, api.Length, 1)
	bad(t, []byte{48, 2, 0, 0, 0}, api.Syntax, 2)
}

func TestEachLength(t *testing.T) {
	for first := range 256 {
		judge(t, []byte{4, byte(first)})
		if first == 128 || first > 131 {
			for _, b := range [][]byte{nil, {0}, {1}, some(8), some(300)} {
				bad(t, append([]byte{4, byte(first)}, b...), api.Length, 1)
				bad(t, append([]byte{48, byte(first)}, b...), api.Length, 1)
			}
		}
	}
	for n := range 256 {
		judge(t, append([]byte{4, byte(n)}, some(n)...))
		judge(t, append([]byte{4, 129, byte(n)}, some(n)...))
		judge(t, append([]byte{4, 130, 0, byte(n)}, some(n)...))
		judge(t, append([]byte{4, 131, 0, 0, byte(n)}, some(n)...))
		judge(t, append([]byte{4, 130, 1, byte(n)}, some(256+n)...))
		judge(t, append([]byte{4, 131, 0, 1, byte(n)}, some(256+n)...))
	}
	for n := 0; n < 1<<24; n += 97 {
		at, code := 5, api.Truncated
		if n < 65536 {
			at, code = 1, api.Length
		}
		bad(t, []byte{4, 131, byte(n >> 16), byte(n >> 8), byte(n)}, code, at)
	}
	for n := range 65536 {
		at, code := 4, api.Truncated
		if n < 256 {
			at, code = 1, api.Length
		}
		bad(t, []byte{4, 130, byte(n >> 8), byte(n)}, code, at)
	}
}

func TestTooDeep(t *testing.T) {
	// The node with MaxDepth nodes above it is at 16.
	for _, b := range [][]byte{{5, 0}, {48, 0}, {4, 1, 7}, {5}, {4, 128}, {4, 132}, {4, 129, 1}, {4, 9}, {48, 2, 0, 0}, {5, 0, 0}} {
		bad(t, under(8, b), api.TooDeep, 16)
		bad(t, append(under(8, b), 0), api.TooDeep, 16)
		bad(t, under(7, append(within(b...), 0)), api.TooDeep, 16)
		bad(t, under(7, append([]byte{5, 0}, within(b...)...)), api.TooDeep, 18)
		bad(t, under(6, append(within(5, 0), within(within(b...)...)...)), api.TooDeep, 20)
		bad(t, under(12, b), api.TooDeep, 16)
	}
	for _, b := range [][]byte{{0, 0}, {31}, {63, 0}, {255, 128}} {
		bad(t, under(8, b), api.Syntax, 16)
		bad(t, under(8, b, 0, 0), api.Syntax, 16)
	}
	// What comes before the deep node has its errors first.
	bad(t, under(7, append([]byte{0, 0}, within(5, 0)...)), api.Syntax, 14)
	bad(t, under(6, append([]byte{4, 128}, within(within(5, 0)...)...)), api.Length, 13)
	good(t, chain(8), under(7, []byte{5, 0}))
	bad(t, under(7, []byte{5, 0}, 0), api.Syntax, 16)
}

// nested returns a string of a size that is a Sequence in each Sequence, as far
// down as its bytes go.
func nested(size int) []byte {
	var b []byte
	for left := size; left > 0; {
		k := len(lengthOf(left))
		b = append(append(b, 48), lengthOf(max(left-1-k, 0))...)
		left = size - len(b)
	}
	return b[:size]
}

func TestDeepStrings(t *testing.T) {
	b := nested(10000)
	bad(t, b, api.TooDeep, 32)
	judge(t, b)
	b = nested(api.MaxInput)
	bad(t, b, api.TooDeep, 40)
	judge(t, b)
}

func TestTrailing(t *testing.T) {
	for _, n := range []der.Node{leaf(5), octets(7), octets(128), octets(65536), seq(), seq(leaf(5)), chain(8), filled(1000)} {
		b, _ := der.Encode(n)
		for _, more := range [][]byte{{0}, {5}, {5, 0}, {255}, {4, 128}, b, make([]byte, 1000)} {
			bad(t, append(bytes.Clone(b), more...), api.Trailing, len(b))
		}
	}
	size := api.MaxInput - 6
	b := append([]byte{4, 131, 15, 255, 250}, make([]byte, size+1)...)
	bad(t, b, api.Trailing, api.MaxInput-1)
	good(t, leaf(4, make([]byte, size)...), b[:len(b)-1])
	// Errors inside come before it.
	bad(t, []byte{48, 2, 4, 1, 7}, api.Truncated, 4)
	bad(t, []byte{48, 2, 0, 0, 7}, api.Syntax, 2)
}

func TestTooLong(t *testing.T) {
	most := make([]byte, api.MaxInput)
	bad(t, most, api.Syntax, 0)
	most[0] = 5
	bad(t, most, api.Trailing, 2)
	copy(most, []byte{4, 131, 15, 255, 252})
	bad(t, most, api.Truncated, api.MaxInput)
	copy(most, []byte{4, 131, 15, 255, 251})
	good(t, leaf(4, most[5:]...), most)

	for _, more := range []int{1, 2, 1000, api.MaxInput, 1 << 24} {
		b := make([]byte, api.MaxInput+more)
		bad(t, b, api.TooLong, api.MaxInput)
		b[0] = 5
		bad(t, b, api.TooLong, api.MaxInput)
		copy(b, []byte{4, 131, 15, 255, 251})
		bad(t, b, api.TooLong, api.MaxInput)
		n := len(b) - 5
		copy(b, []byte{4, 131, byte(n >> 16), byte(n >> 8), byte(n)})
		bad(t, b, api.TooLong, api.MaxInput)
	}
}

// P8.3 and P8.4: all strings of some bytes, and strings that are nearly valid

// each calls f with all strings of an alphabet with at most n bytes.
func each(alphabet []byte, n int, f func(b []byte)) {
	var grow func(b []byte)
	grow = func(b []byte) {
		f(b)
		if len(b) == n {
			return
		}
		for _, c := range alphabet {
			grow(append(b[:len(b):len(b)], c))
		}
	}
	grow(nil)
}

func TestAllShortStrings(t *testing.T) {
	seen := map[string]bool{}
	check := func(b []byte) {
		judge(t, b)
		if n, err := der.Parse(b); err == nil {
			if s := show(n) + " " + string(flat(n)); seen[s] {
				t.Errorf("%v has the node of another string", b)
			} else {
				seen[s] = true
			}
		}
	}
	each([]byte{0, 1, 2, 3, 4, 5, 48, 63, 128, 129, 130, 131, 132, 160}, 4, check)
	clear(seen)
	each([]byte{0, 2, 4, 6, 48, 129}, 7, check)
	all := make([]byte, 256)
	for i := range all {
		all[i] = byte(i)
	}
	clear(seen)
	each(all, 2, check)
	if len(seen) != 247 {
		t.Errorf("%d strings of at most 2 bytes have a node", len(seen))
	}
}

// flat returns all the Bytes of a tree.
func flat(n der.Node) []byte {
	b := bytes.Clone(n.Bytes)
	for _, kid := range n.Kids {
		b = append(b, flat(kid)...)
	}
	return b
}

// dice yields numbers that look random.
type dice uint64

func (d *dice) below(n int) int {
	*d = *d*6364136223846793005 + 1442695040888963407
	return int(uint64(*d)>>33) % n
}

// random returns a valid node of at most a depth.
func (d *dice) random(depth int) der.Node {
	if d.below(4) == 0 || depth == 1 {
		size := []int{0, 1, 2, 5, 60, 126, 127, 128, 129, 300}[d.below(10)]
		return leaf([]byte{2, 3, 4, 5, 6, 128, 129, 192}[d.below(8)], some(size)...)
	}
	n := tree([]byte{48, 49, 160, 161, 32, 224}[d.below(6)])
	for range d.below(5) {
		n.Kids = append(n.Kids, d.random(depth-1))
	}
	return n
}

// encoded returns the encoding of a valid node, written as the chapter says.
func encoded(n der.Node) []byte {
	contents := bytes.Clone(n.Bytes)
	for _, kid := range n.Kids {
		contents = append(contents, encoded(kid)...)
	}
	return slices.Concat([]byte{n.Tag}, lengthOf(len(contents)), contents)
}

func TestRandomNodes(t *testing.T) {
	d := dice(1)
	for range 3000 {
		n := d.random(8)
		b := encoded(n)
		good(t, n, b)
		for range 5 {
			judge(t, d.spoiled(b))
		}
		judge(t, b[:d.below(len(b))])
	}
}

// spoiled returns b with a byte changed, taken out or put in near its heads.
func (d *dice) spoiled(b []byte) []byte {
	at := d.below(min(len(b), 1+d.below(len(b))))
	c := []byte{0, 1, 4, 5, 31, 48, 127, 128, 129, 130, 131, 132, 255, b[at] + 1, b[at] - 1, b[at] ^ 32}[d.below(16)]
	switch b = bytes.Clone(b); d.below(3) {
	case 0:
		return slices.Delete(b, at, at+1)
	case 1:
		return slices.Insert(b, at, c)
	}
	b[at] = c
	return b
}

// Rules 4 to 8

// spoil changes every byte of b and of its unused capacity.
func spoil(b []byte) {
	b = b[:cap(b)]
	for i := range b {
		b[i] ^= 0xff
	}
}

// nodes returns the addresses of all nodes of a tree.
func nodes(n *der.Node) []*der.Node {
	l := []*der.Node{n}
	for i := range n.Kids {
		l = append(l, nodes(&n.Kids[i])...)
	}
	return l
}

func example() (der.Node, []byte) {
	n := seq(octets(3), seq(leaf(der.OID, 42, 3), leaf(der.Null), seq()), octets(5), tree(160, leaf(128, 8, 9), octets(130)))
	return n, encoded(n)
}

func TestParseKeepsNothing(t *testing.T) {
	n, b := example()
	held := append(append([]byte{}, b...), 1, 2, 3, 4)
	got, err := der.Parse(held[:len(b)])
	if err != nil || !bytes.Equal(held, append(bytes.Clone(b), 1, 2, 3, 4)) {
		t.Errorf("Parse has changed its argument: %v, %v", err, held)
	}
	spoil(held)
	if !equal(got, n) {
		t.Error("a change of the string has changed the node")
	}
}

func TestPartsOfAResultShareNothing(t *testing.T) {
	n, b := example()
	for i := range nodes(&n) {
		got, _ := der.Parse(b)
		one := nodes(&got)[i]
		spoil(one.Bytes)
		free := one.Kids[len(one.Kids):cap(one.Kids)]
		for j := range free {
			free[j] = leaf(255, 1)
		}
		want, _ := example()
		spoil(nodes(&want)[i].Bytes)
		if !equal(got, want) {
			t.Errorf("a change of node %d has changed another one", i)
		}
	}
	first, _ := der.Parse(b)
	second, _ := der.Parse(b)
	for _, one := range nodes(&first) {
		spoil(one.Bytes)
	}
	if !equal(second, n) {
		t.Error("a change of one result has changed another one")
	}
}

// roomy gives all slices of a tree some unused capacity.
func roomy(n der.Node) der.Node {
	c := der.Node{Tag: n.Tag, Bytes: append(make([]byte, 0, len(n.Bytes)+9), n.Bytes...), Kids: make([]der.Node, 0, len(n.Kids)+3)}
	for _, kid := range n.Kids {
		c.Kids = append(c.Kids, roomy(kid))
	}
	return c
}

// full is a tree with its unused capacity, as a text.
func full(n der.Node) string {
	s := strconv.Itoa(int(n.Tag)) + " " + hex(n.Bytes[:cap(n.Bytes)])
	for _, kid := range n.Kids[:cap(n.Kids)] {
		s += "{" + full(kid) + "}"
	}
	return s
}

func TestArgumentsStay(t *testing.T) {
	valid, want := example()
	deep := valid
	for range 8 {
		deep = seq(deep)
	}
	for _, x := range []der.Node{valid, deep, {Tag: 4, Bytes: []byte{1}, Kids: []der.Node{valid}}} {
		n := roomy(x)
		before := full(n)
		der.Valid(n)
		der.Depth(n)
		der.Count(n)
		der.Same(n, n)
		der.Same(n, x)
		der.Encode(n)
		if full(n) != before {
			t.Errorf("%s has been changed", show(n))
		}
	}
	n := roomy(valid)
	before := full(n)
	got, _ := der.Encode(n)
	spoil(got)
	if full(n) != before {
		t.Error("a change of the encoding has changed the node")
	}
	got, _ = der.Encode(n)
	for _, one := range nodes(&n) {
		spoil(one.Bytes)
	}
	if !bytes.Equal(got, want) {
		t.Error("a change of the node has changed the encoding")
	}
}

// An encoding that consists of nothing but one slice of the node is a copy too.
func TestEncodingsOfLeavesAreCopies(t *testing.T) {
	for _, n := range []der.Node{octets(1), octets(200), seq(octets(3)), seq(seq(octets(3)))} {
		n = roomy(n)
		want := encoded(n)
		got, _ := der.Encode(n)
		for _, one := range nodes(&n) {
			spoil(one.Bytes)
		}
		if !bytes.Equal(got, want) {
			t.Errorf("a change of %s has changed its encoding", show(n))
		}
	}
}

func TestAnswersStayTheSame(t *testing.T) {
	n, b := example()
	for range 3 {
		good(t, n, b)
		bad(t, b[:len(b)-1], api.Truncated, len(b)-1)
		invalid(t, chain(9))
	}
}

func TestConcurrentCalls(t *testing.T) {
	n, b := example()
	long := append(bytes.Clone(b), 0)
	var all sync.WaitGroup
	for range 8 {
		all.Go(func() {
			for range 50 {
				good(t, n, b)
				bad(t, long, api.Trailing, len(b))
				if der.Depth(n) != 3 || der.Count(n) != 10 || !der.Same(n, n) {
					t.Error("Depth, Count or Same")
				}
			}
		})
	}
	all.Wait()
}
