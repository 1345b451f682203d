package wire_test

import (
	"bytes"
	"math"
	"sync"
	"testing"

	"pyx/wire"
)

// count returns the n bytes 1, 2, 3 and so on.
func count(n int) []byte {
	b := make([]byte, n)
	for i := range b {
		b[i] = byte(i + 1)
	}
	return b
}

// place checks where a reader is.
func place(t *testing.T, r *wire.Reader, at, left int) {
	t.Helper()
	if r.At() != at || r.Left() != left {
		t.Errorf("at %d with %d left, want %d with %d", r.At(), r.Left(), at, left)
	}
}

// spoil changes every byte of b and of its unused capacity.
func spoil(b []byte) {
	for i := range b[:cap(b)] {
		b[:cap(b)][i] ^= 0xff
	}
}

func TestNilReader(t *testing.T) {
	var r *wire.Reader
	place(t, r, 0, 0)
	if got := r.Rest(); len(got) != 0 {
		t.Errorf("Rest: %v", got)
	}
	for _, n := range []int{math.MinInt, -1, 0, 1, 2, 3, 4, 8, math.MaxInt} {
		if got, ok := r.Take(n); len(got) != 0 || ok {
			t.Errorf("Take(%d): %v, %v", n, got, ok)
		}
		if got, ok := r.Word(n); got != 0 || ok {
			t.Errorf("Word(%d): %v, %v", n, got, ok)
		}
	}
	place(t, r, 0, 0)
}

// P1.1

func TestNewStartsAtZero(t *testing.T) {
	place(t, wire.New(nil), 0, 0)
	place(t, wire.New([]byte{}), 0, 0)
	for n := range 40 {
		place(t, wire.New(count(n)), 0, n)
	}
}

func TestNewTakesLengthNotCapacity(t *testing.T) {
	b := count(9)
	r := wire.New(b[2:5])
	place(t, r, 0, 3)
	if got := r.Rest(); !bytes.Equal(got, []byte{3, 4, 5}) {
		t.Errorf("Rest: %v", got)
	}
}

func TestNewCopies(t *testing.T) {
	b := count(5)
	r := wire.New(b)
	spoil(b)
	if got, ok := r.Take(2); !bytes.Equal(got, []byte{1, 2}) || !ok {
		t.Errorf("Take: %v, %v", got, ok)
	}
	if got, ok := r.Word(2); got != 0x0304 || !ok {
		t.Errorf("Word: %#x, %v", got, ok)
	}
	if got := r.Rest(); !bytes.Equal(got, []byte{5}) {
		t.Errorf("Rest: %v", got)
	}
}

func TestReadersAreIndependent(t *testing.T) {
	b := count(3)
	r, s := wire.New(b), wire.New(b)
	r.Take(2)
	place(t, r, 2, 1)
	place(t, s, 0, 3)
}

// P1.2

func TestTake(t *testing.T) {
	const size = 6
	for at := range size + 1 {
		for n := -3; n <= size+3; n++ {
			r := wire.New(count(size))
			r.Take(at)
			got, ok := r.Take(n)
			if n < 0 || n > size-at {
				if len(got) != 0 || ok {
					t.Errorf("at %d: Take(%d): %v, %v", at, n, got, ok)
				}
				place(t, r, at, size-at)
				continue
			}
			if !bytes.Equal(got, count(size)[at:at+n]) || !ok {
				t.Errorf("at %d: Take(%d): %v, %v", at, n, got, ok)
			}
			place(t, r, at+n, size-at-n)
		}
	}
}

func TestTakeOfExtremes(t *testing.T) {
	for _, n := range []int{math.MinInt, math.MinInt + 1, math.MaxInt - 1, math.MaxInt} {
		r := wire.New(count(4))
		r.Take(3)
		if got, ok := r.Take(n); len(got) != 0 || ok {
			t.Errorf("Take(%d): %v, %v", n, got, ok)
		}
		place(t, r, 3, 1)
		if got, ok := r.Take(1); !bytes.Equal(got, []byte{4}) || !ok {
			t.Errorf("after Take(%d): %v, %v", n, got, ok)
		}
	}
}

func TestTakeAtTheEnd(t *testing.T) {
	for _, r := range []*wire.Reader{wire.New(nil), wire.New([]byte{})} {
		if got, ok := r.Take(1); len(got) != 0 || ok {
			t.Errorf("Take(1): %v, %v", got, ok)
		}
		if got, ok := r.Take(0); len(got) != 0 || !ok {
			t.Errorf("Take(0): %v, %v", got, ok)
		}
		place(t, r, 0, 0)
	}
}

func TestRest(t *testing.T) {
	const size = 6
	for at := range size + 1 {
		r := wire.New(count(size))
		r.Take(at)
		if got := r.Rest(); !bytes.Equal(got, count(size)[at:]) {
			t.Errorf("at %d: Rest: %v", at, got)
		}
		place(t, r, size, 0)
		if got := r.Rest(); len(got) != 0 {
			t.Errorf("at the end: Rest: %v", got)
		}
		place(t, r, size, 0)
	}
}

// The reader has no way back, so only the capacity of what is taken could show
// or change bytes that come later.
func TestTakenBytesAreCopies(t *testing.T) {
	r := wire.New(count(6))
	first, _ := r.Take(2)
	spoil(first)
	second, _ := r.Take(2)
	if !bytes.Equal(second, []byte{3, 4}) {
		t.Errorf("after a change of the first bytes: %v", second)
	}
	_ = append(first, 7, 7, 7, 7)
	if !bytes.Equal(second, []byte{3, 4}) {
		t.Errorf("after an append to the first bytes: %v", second)
	}
	_ = append(second, 7, 7)
	rest := r.Rest()
	if !bytes.Equal(rest, []byte{5, 6}) {
		t.Errorf("after an append to the second bytes: %v", rest)
	}
	spoil(rest)
	if !bytes.Equal(second, []byte{3, 4}) {
		t.Errorf("after a change of the rest: %v", second)
	}
}

// P1.3

func TestWord(t *testing.T) {
	b := []byte{0x81, 0x02, 0x83, 0x04, 0x85, 0x06, 0x87, 0x08, 0x89}
	for _, x := range []struct {
		at, n int
		want  uint64
	}{
		{0, 1, 0x81}, {1, 1, 0x02}, {8, 1, 0x89},
		{0, 2, 0x8102}, {1, 2, 0x0283}, {7, 2, 0x0889},
		{0, 4, 0x81028304}, {5, 4, 0x06870889},
		{0, 8, 0x8102830485068708}, {1, 8, 0x0283048506870889},
	} {
		r := wire.New(b)
		r.Take(x.at)
		if got, ok := r.Word(x.n); got != x.want || !ok {
			t.Errorf("at %d: Word(%d): %#x, %v, want %#x", x.at, x.n, got, ok, x.want)
		}
		place(t, r, x.at+x.n, len(b)-x.at-x.n)
	}
}

func TestWordsInTurn(t *testing.T) {
	r := wire.New(count(15))
	at := 0
	for _, x := range []struct {
		n    int
		want uint64
	}{{1, 0x01}, {2, 0x0203}, {4, 0x04050607}, {8, 0x08090a0b0c0d0e0f}} {
		if got, ok := r.Word(x.n); got != x.want || !ok {
			t.Errorf("Word(%d): %#x, %v, want %#x", x.n, got, ok, x.want)
		}
		at += x.n
		place(t, r, at, 15-at)
	}
}

func TestWordOfOtherSizes(t *testing.T) {
	sizes := []int{math.MinInt, math.MaxInt, 16, 32, 64}
	for n := -9; n <= 20; n++ {
		if n != 1 && n != 2 && n != 4 && n != 8 {
			sizes = append(sizes, n)
		}
	}
	for _, n := range sizes {
		r := wire.New(count(70))
		r.Take(1)
		if got, ok := r.Word(n); got != 0 || ok {
			t.Errorf("Word(%d): %#x, %v", n, got, ok)
		}
		place(t, r, 1, 69)
	}
}

func TestWordBeyondTheEnd(t *testing.T) {
	for _, n := range []int{1, 2, 4, 8} {
		for left := range n {
			r := wire.New(count(3 + left))
			r.Take(3)
			if got, ok := r.Word(n); got != 0 || ok {
				t.Errorf("%d left: Word(%d): %#x, %v", left, n, got, ok)
			}
			place(t, r, 3, left)
		}
	}
}

// P1.4

func TestPut(t *testing.T) {
	for _, x := range []struct {
		n    int
		x    uint64
		want []byte
	}{
		{1, 0, []byte{0}}, {1, 1, []byte{1}}, {1, 0xff, []byte{0xff}},
		{2, 0, []byte{0, 0}}, {2, 258, []byte{1, 2}}, {2, 0xff, []byte{0, 0xff}}, {2, 0xffff, []byte{0xff, 0xff}},
		{4, 0, []byte{0, 0, 0, 0}}, {4, 0x01020304, []byte{1, 2, 3, 4}}, {4, 1<<32 - 1, []byte{0xff, 0xff, 0xff, 0xff}},
		{8, 0, make([]byte, 8)}, {8, 1 << 32, []byte{0, 0, 0, 1, 0, 0, 0, 0}},
		{8, 0x0102030405060708, count(8)}, {8, 1 << 63, []byte{0x80, 0, 0, 0, 0, 0, 0, 0}},
		{8, math.MaxUint64, bytes.Repeat([]byte{0xff}, 8)},
	} {
		if got, ok := wire.Put(x.n, x.x); !bytes.Equal(got, x.want) || !ok {
			t.Errorf("Put(%d, %#x): %v, %v, want %v", x.n, x.x, got, ok, x.want)
		}
	}
}

func TestPutOfTooMuch(t *testing.T) {
	for _, n := range []int{1, 2, 4} {
		for bit := 8 * n; bit < 64; bit++ {
			for _, x := range []uint64{1 << bit, 1<<bit | 1, math.MaxUint64 >> (63 - bit)} {
				if got, ok := wire.Put(n, x); len(got) != 0 || ok {
					t.Errorf("Put(%d, %#x): %v, %v", n, x, got, ok)
				}
			}
		}
	}
}

func TestPutOfOtherSizes(t *testing.T) {
	for _, n := range []int{math.MinInt, -8, -4, -2, -1, 0, 3, 5, 6, 7, 9, 10, 12, 16, 32, 64, math.MaxInt} {
		for _, x := range []uint64{0, 1, math.MaxUint64} {
			if got, ok := wire.Put(n, x); len(got) != 0 || ok {
				t.Errorf("Put(%d, %#x): %v, %v", n, x, got, ok)
			}
		}
	}
}

func TestJoin(t *testing.T) {
	a, b, c := []byte{1}, []byte{2, 3}, []byte{4, 5, 6}
	for i, x := range []struct {
		parts [][]byte
		want  []byte
	}{
		{nil, nil},
		{[][]byte{nil}, nil},
		{[][]byte{nil, {}, nil}, nil},
		{[][]byte{a}, a},
		{[][]byte{b, a}, []byte{2, 3, 1}},
		{[][]byte{nil, a, {}, b, nil, c, nil}, count(6)},
		{[][]byte{c, c}, []byte{4, 5, 6, 4, 5, 6}},
	} {
		if got := wire.Join(x.parts...); !bytes.Equal(got, x.want) {
			t.Errorf("%d: %v, want %v", i, got, x.want)
		}
	}
}

func TestJoinCopies(t *testing.T) {
	for _, others := range [][][]byte{nil, {nil}, {{9}}} {
		b := count(8)
		part := b[:3]
		parts := append([][]byte{part}, others...)
		got := wire.Join(parts...)
		if !bytes.Equal(b, count(8)) {
			t.Errorf("%d parts: the argument has become %v", len(parts), b)
		}
		spoil(got)
		if !bytes.Equal(b, count(8)) {
			t.Errorf("%d parts: a change of the result changes the argument to %v", len(parts), b)
		}
		want := bytes.Clone(got)
		spoil(b)
		if !bytes.Equal(got, want) {
			t.Errorf("%d parts: a change of the argument changes the result to %v", len(parts), got)
		}
	}
}

func TestSame(t *testing.T) {
	for _, x := range []struct {
		a, b []byte
		want bool
	}{
		{nil, nil, true}, {nil, []byte{}, true}, {[]byte{}, nil, true}, {[]byte{}, []byte{}, true},
		{[]byte{1, 2}, []byte{1, 2}, true}, {count(300), count(300), true},
		{nil, []byte{0}, false}, {[]byte{0}, nil, false},
		{[]byte{1, 2}, []byte{1}, false}, {[]byte{1}, []byte{1, 2}, false}, {[]byte{1, 2}, []byte{2, 1}, false},
		{[]byte{0}, []byte{0, 0}, false}, {[]byte{1, 2, 3}, []byte{0, 2, 3}, false}, {[]byte{1, 2, 3}, []byte{1, 2, 2}, false},
	} {
		if got := wire.Same(x.a, x.b); got != x.want {
			t.Errorf("Same(%v, %v): %v", x.a, x.b, got)
		}
	}
}

func TestSameSeesEachByte(t *testing.T) {
	for i := range 70 {
		a, b := count(70), count(70)
		b[i] ^= 0x10
		if wire.Same(a, b) {
			t.Errorf("a change at %d is not seen", i)
		}
	}
}

// P1.5

func TestWordReadsWhatPutHasWritten(t *testing.T) {
	var all []byte
	var sizes []int
	var want []uint64
	for _, n := range []int{1, 2, 4, 8} {
		most := uint64(math.MaxUint64) >> (64 - 8*n)
		values := []uint64{0, 1, most, most - 1, 0x0123456789abcdef & most, 0xfedcba9876543210 & most}
		for bit := range 8 * n {
			values = append(values, 1<<bit)
		}
		for _, x := range values {
			b, ok := wire.Put(n, x)
			if len(b) != n || !ok {
				t.Errorf("Put(%d, %#x): %v, %v", n, x, b, ok)
			}
			r := wire.New(b)
			if got, ok := r.Word(n); got != x || !ok {
				t.Errorf("Put(%d, %#x) is read as %#x, %v", n, x, got, ok)
			}
			place(t, r, n, 0)
			all, sizes, want = wire.Join(all, b), append(sizes, n), append(want, x)
		}
	}
	r := wire.New(all)
	for i, n := range sizes {
		if got, ok := r.Word(n); got != want[i] || !ok {
			t.Errorf("word %d: %#x, %v, want %#x", i, got, ok, want[i])
		}
	}
	place(t, r, len(all), 0)
}

// Rule 8: the functions may be called concurrently, and on the same bytes.
func TestConcurrentReaders(t *testing.T) {
	b := count(64)
	var all sync.WaitGroup
	for range 8 {
		all.Go(func() {
			r := wire.New(b)
			var got []byte
			for r.Left() > 0 {
				x, _ := r.Word(4)
				part, _ := wire.Put(4, x)
				got = wire.Join(got, part)
			}
			if !wire.Same(got, b) {
				t.Errorf("%v", got)
			}
		})
	}
	all.Wait()
}
