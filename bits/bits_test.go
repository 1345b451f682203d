package bits_test

import (
	"bytes"
	"math"
	"math/big"
	"slices"
	"strconv"
	"strings"
	"sync"
	"testing"

	"pyx/bits"
)

const most = 1 << 20

// otherWidths are widths of no packing; some are like 1 to 32 in their low bits.
var otherWidths = []int{math.MinInt, math.MinInt + 1, math.MinInt + 8, -1 << 32, -1<<32 + 8, -256, -33, -32, -31, -8, -2, -1, 0, 33, 34, 63, 64, 65, 128, 255, 256, 257, 264, 1<<16 + 8, 1 << 31, 1<<32 + 1, 1<<32 + 8, 1 << 62, math.MaxInt - 1, math.MaxInt}

// otherCounts are counts of no packing.
var otherCounts = []int{math.MinInt, math.MinInt + 1, math.MinInt + 8, -1 << 61, -1 << 60, -1 << 32, -most, -9, -8, -7, -2, -1, most + 1, most + 2, most + 8, 1 << 21, 1<<31 - 1, 1 << 31, 1 << 32, 1<<32 + 1, 1<<32 + 8, 1 << 59, 1 << 60, 1 << 61, 1<<61 + 1, 1 << 62, math.MaxInt - 7, math.MaxInt - 6, math.MaxInt}

// some returns n numbers of d bits that look random.
func some(d, n int) []uint32 {
	l, seed := make([]uint32, n), uint64(n*33+d)
	for i := range l {
		seed = seed*6364136223846793005 + 1442695040888963407
		l[i] = uint32(seed>>32) >> (32 - d)
	}
	return l
}

// greatest returns the greatest number of d bits.
func greatest(d int) uint32 { return uint32(1<<d - 1) }

// packing returns the packing of numbers, from the definition: the bits are
// written as digits and read as bytes.
func packing(d int, l []uint32) []byte {
	var digits strings.Builder
	for _, x := range l {
		for i := range d {
			digits.WriteByte('0' + byte(x>>i&1))
		}
	}
	for digits.Len()%8 != 0 {
		digits.WriteByte('0')
	}
	s := digits.String()
	out := []byte{}
	for i := 0; i < len(s); i += 8 {
		part := []byte(s[i : i+8])
		slices.Reverse(part)
		x, _ := strconv.ParseUint(string(part), 2, 8)
		out = append(out, byte(x))
	}
	return out
}

// packs checks that bytes are the packing of numbers.
func packs(t *testing.T, d int, l []uint32, want []byte) {
	t.Helper()
	if got, ok := bits.Pack(d, l...); !ok || !bytes.Equal(got, want) {
		t.Errorf("Pack(%d, %d numbers): %d bytes, %v", d, len(l), len(got), ok)
	}
	if got, ok := bits.Unpack(d, len(l), want); !ok || !slices.Equal(got, l) {
		t.Errorf("Unpack(%d, %d, %d bytes): %d numbers, %v", d, len(l), len(want), len(got), ok)
	}
	if got := bits.Size(d, len(l)); got != len(want) {
		t.Errorf("Size(%d, %d): %d, want %d", d, len(l), got, len(want))
	}
}

// noPacking checks that numbers have no packing.
func noPacking(t *testing.T, d int, l ...uint32) {
	t.Helper()
	if got, ok := bits.Pack(d, l...); got != nil || ok {
		t.Errorf("Pack(%d, %d numbers): %d bytes, %v", d, len(l), len(got), ok)
	}
}

// noNumbers checks that bytes are not the packing of n numbers.
func noNumbers(t *testing.T, d, n int, b []byte) {
	t.Helper()
	if got, ok := bits.Unpack(d, n, b); got != nil || ok {
		t.Errorf("Unpack(%d, %d, %d bytes): %d numbers, %v", d, n, len(b), len(got), ok)
	}
}

// judge checks Unpack with whole numbers of any length: bytes are one number,
// from the lowest byte on, whose digits to the base 2^d are the numbers.
func judge(t *testing.T, d, n int, b []byte) {
	t.Helper()
	reversed := bytes.Clone(b)
	slices.Reverse(reversed)
	x := new(big.Int).SetBytes(reversed)
	base := new(big.Int).Lsh(big.NewInt(1), uint(d))
	want := make([]uint32, n)
	for i := range want {
		digit := new(big.Int)
		x.DivMod(x, base, digit)
		want[i] = uint32(digit.Uint64())
	}
	if len(b) == (d*n+7)/8 && x.Sign() == 0 {
		packs(t, d, want, b)
	} else {
		noNumbers(t, d, n, b)
	}
}

// P5.1

func TestSize(t *testing.T) {
	for _, x := range []struct{ d, n, want int }{
		{1, 0, 0}, {1, 1, 1}, {1, 7, 1}, {1, 8, 1}, {1, 9, 2}, {1, 256, 32}, {4, 3, 2}, {10, 256, 320}, {12, 256, 384}, {13, 256, 416}, {8, 5, 5}, {31, 1, 4}, {31, 8, 31}, {31, 9, 35}, {32, 0, 0}, {32, 1, 4}, {32, 3, 12},
		{1, most, 1 << 17}, {1, most - 1, 1 << 17}, {1, most - 8, 1<<17 - 1}, {8, most, most}, {31, most, 31 << 17}, {31, most - 1, 31<<17 - 3}, {32, most, 1 << 22}, {32, most - 1, 1<<22 - 4},
	} {
		if got := bits.Size(x.d, x.n); got != x.want {
			t.Errorf("Size(%d, %d): %d, want %d", x.d, x.n, got, x.want)
		}
	}
}

func TestSizeOfEachWidth(t *testing.T) {
	for d := 1; d <= 32; d++ {
		for n := range 100 {
			if got, want := bits.Size(d, n), len(packing(d, make([]uint32, n))); got != want {
				t.Errorf("Size(%d, %d): %d, want %d", d, n, got, want)
			}
		}
		if got := bits.Size(d, most); got != d<<17 {
			t.Errorf("Size(%d, %d): %d", d, most, got)
		}
		for _, n := range otherCounts {
			if got := bits.Size(d, n); got != 0 {
				t.Errorf("Size(%d, %d): %d", d, n, got)
			}
		}
	}
}

func TestSizeOfOtherWidths(t *testing.T) {
	for _, d := range otherWidths {
		for _, n := range append([]int{0, 1, 2, 8, 256, most}, otherCounts...) {
			if got := bits.Size(d, n); got != 0 {
				t.Errorf("Size(%d, %d): %d", d, n, got)
			}
		}
	}
}

// P5.2 and P5.3

func TestKnownPackings(t *testing.T) {
	for _, x := range []struct {
		d    int
		l    []uint32
		want []byte
	}{
		{4, []uint32{1, 2, 3}, []byte{33, 3}},
		{1, []uint32{1}, []byte{1}}, {1, []uint32{0, 1}, []byte{2}}, {1, []uint32{0, 0, 0, 0, 0, 0, 0, 1, 1}, []byte{128, 1}},
		{2, []uint32{0, 1, 2, 3}, []byte{0xe4}}, {3, []uint32{1, 2, 3}, []byte{0xd1, 0}}, {7, []uint32{127, 1}, []byte{0xff, 0}}, {7, []uint32{127, 2}, []byte{0x7f, 1}},
		{8, []uint32{0, 1, 128, 255}, []byte{0, 1, 128, 255}}, {9, []uint32{0x101, 0x80}, []byte{1, 1, 1}}, {10, []uint32{0x3ff, 0, 0x201}, []byte{0xff, 3, 0x10, 0x20}},
		{12, []uint32{0xabc, 0x123}, []byte{0xbc, 0x3a, 0x12}}, {13, []uint32{1 << 12, 1}, []byte{0, 0x30, 0, 0}}, {16, []uint32{0x1234}, []byte{0x34, 0x12}},
		{31, []uint32{0x7fffffff}, []byte{255, 255, 255, 127}}, {31, []uint32{0, 1}, []byte{0, 0, 0, 128, 0, 0, 0, 0}},
		{32, []uint32{0x12345678}, []byte{0x78, 0x56, 0x34, 0x12}}, {32, []uint32{1<<32 - 1, 1}, []byte{255, 255, 255, 255, 1, 0, 0, 0}},
	} {
		if made := packing(x.d, x.l); !bytes.Equal(made, x.want) {
			t.Errorf("the definition packs %v with %d bits as %v", x.l, x.d, made)
		}
		packs(t, x.d, x.l, x.want)
	}
}

func TestNoNumbersOfEachWidth(t *testing.T) {
	for d := 1; d <= 32; d++ {
		packs(t, d, nil, nil)
		packs(t, d, []uint32{}, []byte{})
		for _, b := range [][]byte{{0}, {1}, {0, 0}, make([]byte, 4), make([]byte, 100)} {
			noNumbers(t, d, 0, b)
		}
	}
}

func TestEachWidth(t *testing.T) {
	for d := 1; d <= 32; d++ {
		for n := range 70 {
			for _, l := range [][]uint32{some(d, n), make([]uint32, n), slices.Repeat([]uint32{greatest(d)}, n), slices.Repeat([]uint32{1}, n), slices.Repeat([]uint32{0, greatest(d)}, n)} {
				packs(t, d, l, packing(d, l))
			}
		}
	}
}

// Each bit of nine numbers, alone and as the only one that is missing.
func TestEachBitOfNumbers(t *testing.T) {
	for d := 1; d <= 32; d++ {
		for i := range 9 * d {
			l := make([]uint32, 9)
			l[i/d] = 1 << (i % d)
			b := make([]byte, (9*d+7)/8)
			b[i/8] = 1 << (i % 8)
			packs(t, d, l, b)
			for j := range l {
				l[j] ^= greatest(d)
			}
			packs(t, d, l, packing(d, l))
		}
	}
}

func TestGreatestNumbers(t *testing.T) {
	for d := 1; d <= 32; d++ {
		g := greatest(d)
		packs(t, d, []uint32{g}, packing(d, []uint32{g}))
		if d == 32 {
			continue
		}
		for _, x := range []uint32{g + 1, g + 2, 1<<31 + g, 1 << 31, 1<<32 - 1} {
			noPacking(t, d, x)
			for i := range 9 {
				l := some(d, 9)
				l[i] = x
				noPacking(t, d, l...)
			}
		}
	}
}

func TestMostNumbers(t *testing.T) {
	for _, d := range []int{1, 8, 13, 31, 32} {
		l := some(d, most)
		b, ok := bits.Pack(d, l...)
		if !ok || len(b) != d<<17 {
			t.Fatalf("Pack(%d, 2^20 numbers): %d bytes, %v", d, len(b), ok)
		}
		packs(t, d, l, b)
		noNumbers(t, d, most, b[:len(b)-1])
		noNumbers(t, d, most, append(b, 0))
		// The bytes would do, but the numbers are too many.
		for more := 1; more <= 8; more++ {
			noNumbers(t, d, most+more, make([]byte, (d*(most+more)+7)/8))
			noPacking(t, d, make([]uint32, most+more)...)
		}
		l[most-1] = greatest(d)
		b, _ = bits.Pack(d, l...)
		packs(t, d, l, b)
		if d < 32 {
			l[most-1]++
			noPacking(t, d, l...)
		}
	}
}

func TestOtherWidths(t *testing.T) {
	for _, d := range otherWidths {
		noPacking(t, d)
		noPacking(t, d, 0)
		noPacking(t, d, 1, 2, 3)
		for n := range 9 {
			for size := range 9 {
				noNumbers(t, d, n, make([]byte, size))
			}
		}
		for _, n := range otherCounts {
			noNumbers(t, d, n, nil)
			noNumbers(t, d, n, []byte{0})
		}
	}
}

func TestOtherCounts(t *testing.T) {
	for d := 1; d <= 32; d++ {
		for _, n := range otherCounts {
			for size := range 9 {
				noNumbers(t, d, n, make([]byte, size))
			}
		}
	}
}

// Bytes of every number near that of the packing.
func TestCountsOfBytes(t *testing.T) {
	for d := 1; d <= 32; d++ {
		for n := range 20 {
			b := packing(d, some(d, n))
			for size := range 90 {
				part := append(bytes.Clone(b), make([]byte, 90)...)[:size]
				if size != len(b) {
					noNumbers(t, d, n, part)
				}
				judge(t, d, n, part)
			}
		}
	}
}

func TestLastBits(t *testing.T) {
	for d := 1; d <= 32; d++ {
		for n := 1; n < 20; n++ {
			for _, l := range [][]uint32{some(d, n), make([]uint32, n), slices.Repeat([]uint32{greatest(d)}, n)} {
				b := packing(d, l)
				for i := d * n; i < 8*len(b); i++ {
					b[i/8] ^= 1 << (i % 8)
					noNumbers(t, d, n, b)
					b[i/8] ^= 1 << (i % 8)
				}
				packs(t, d, l, b)
				if d*n%8 != 0 {
					b[len(b)-1] |= 0xff << (d * n % 8)
					noNumbers(t, d, n, b)
				}
			}
		}
	}
}

// P5.4

func TestEachBit(t *testing.T) {
	for n := range 20 {
		b := make([]byte, n)
		for i, x := range some(8, n) {
			b[i] = byte(x)
		}
		for i := range 8 * n {
			if got, ok := bits.Bit(b, i); got != int(b[i/8]>>(i%8)&1) || !ok {
				t.Errorf("Bit(%v, %d): %d, %v", b, i, got, ok)
			}
		}
	}
	for i, want := range []int{1, 0, 0, 0, 0, 1, 0, 0, 1, 1, 0, 0, 0, 0, 0, 0} {
		if got, ok := bits.Bit([]byte{33, 3}, i); got != want || !ok {
			t.Errorf("Bit(33 and 3, %d): %d, %v", i, got, ok)
		}
	}
	for i := range 24 {
		b := make([]byte, 3)
		b[i/8] = 1 << (i % 8)
		for j := range 24 {
			if got, ok := bits.Bit(b, j); (got == 1) != (i == j) || !ok {
				t.Errorf("Bit(%v, %d): %d, %v", b, j, got, ok)
			}
		}
	}
}

func TestNoBit(t *testing.T) {
	for n := range 10 {
		b := bytes.Repeat([]byte{255}, n)
		for _, i := range []int{math.MinInt, math.MinInt + 1, -1 << 32, -8 * n, -9, -8, -7, -2, -1, 8 * n, 8*n + 1, 8*n + 7, 8*n + 8, 8*n + 9, 1 << 31, 1 << 32, 1<<32 + 1, 1 << 62, math.MaxInt - 7, math.MaxInt} {
			if i < 0 || i >= 8*n {
				if got, ok := bits.Bit(b, i); got != 0 || ok {
					t.Errorf("Bit(%v, %d): %d, %v", b, i, got, ok)
				}
			}
		}
		if n > 0 {
			if got, ok := bits.Bit(b, 8*n-1); got != 1 || !ok {
				t.Errorf("Bit(%v, %d): %d, %v", b, 8*n-1, got, ok)
			}
		}
	}
}

// A bit of the unused capacity is none.
func TestBitOfCapacity(t *testing.T) {
	b := bytes.Repeat([]byte{255}, 8)[2:4]
	if got, ok := bits.Bit(b, 16); got != 0 || ok {
		t.Errorf("Bit: %d, %v", got, ok)
	}
}

func TestLeast(t *testing.T) {
	for x, want := range map[uint32]int{0: 0, 1: 1, 2: 2, 3: 2, 4: 3, 5: 3, 7: 3, 8: 4, 255: 8, 256: 9, 3328: 12, 3329: 12, 8380416: 23, 8380417: 23, 1<<31 - 1: 31, 1 << 31: 32, 1<<32 - 1: 32} {
		if got := bits.Least(x); got != want {
			t.Errorf("Least(%d): %d, want %d", x, got, want)
		}
	}
	for d := range 32 {
		power := uint32(1) << d
		if got := bits.Least(power); got != d+1 {
			t.Errorf("Least(%d): %d, want %d", power, got, d+1)
		}
		if got := bits.Least(power - 1); got != d {
			t.Errorf("Least(%d): %d, want %d", power-1, got, d)
		}
	}
	// The least d for which x is less than 2^d, as it is defined.
	for _, x := range append(some(32, 1000), some(16, 1000)...) {
		d := 0
		for uint64(x) >= 1<<d {
			d++
		}
		if got := bits.Least(x); got != d {
			t.Errorf("Least(%d): %d, want %d", x, got, d)
		}
	}
}

// P5.5

// All bytes of up to two: what is unpacked is packed as the same bytes.
func TestAllShortBytes(t *testing.T) {
	for d := 1; d <= 32; d++ {
		for n := range 18 {
			if d > 16 && n > 1 {
				break
			}
			judge(t, d, n, nil)
			for c := range 256 {
				judge(t, d, n, []byte{byte(c)})
			}
		}
	}
	for _, x := range []struct{ d, n int }{{1, 9}, {1, 15}, {1, 16}, {2, 5}, {3, 4}, {3, 5}, {4, 3}, {5, 2}, {5, 3}, {7, 2}, {8, 2}, {9, 1}, {12, 1}, {15, 1}, {16, 1}, {17, 1}, {32, 1}} {
		seen := map[string]bool{}
		for c := range 1 << 16 {
			b := []byte{byte(c), byte(c >> 8)}
			judge(t, x.d, x.n, b)
			if l, ok := bits.Unpack(x.d, x.n, b); ok {
				text := ""
				for _, y := range l {
					text += strconv.Itoa(int(y)) + " "
				}
				if seen[text] {
					t.Errorf("Unpack(%d, %d, %v): %v again", x.d, x.n, b, l)
				}
				seen[text] = true
			}
		}
	}
}

func TestRandomBytes(t *testing.T) {
	for d := 1; d <= 32; d++ {
		for n := range 12 {
			for round := range 20 {
				b := make([]byte, (d*n+7)/8)
				for i, x := range some(8, len(b)+round) {
					if i < len(b) {
						b[i] = byte(x)
					}
				}
				judge(t, d, n, b)
			}
		}
	}
}

// Rules 3 to 8

func TestArgumentsAreNotChanged(t *testing.T) {
	for d := 1; d <= 32; d++ {
		for n := range 10 {
			all := some(d, 20)
			before := slices.Clone(all)
			b, _ := bits.Pack(d, all[5:5+n]...)
			if !slices.Equal(all, before) {
				t.Errorf("Pack(%d, %d numbers) changed its argument", d, n)
			}
			clear(all)
			packs(t, d, before[5:5+n], b)

			room := append(bytes.Clone(b), 0xaa, 0xaa, 0xaa)
			whole := bytes.Clone(room)
			l, _ := bits.Unpack(d, n, room[:len(b)])
			bits.Bit(room[:len(b)], 0)
			if !bytes.Equal(room, whole) {
				t.Errorf("Unpack(%d, %d, ..) changed its argument", d, n)
			}
			clear(room)
			if !slices.Equal(l, before[5:5+n]) {
				t.Errorf("Unpack(%d, %d, ..) shares memory with its argument", d, n)
			}
		}
	}
}

func TestResultsShareNothing(t *testing.T) {
	for d := 1; d <= 32; d++ {
		l := some(d, 9)
		first, _ := bits.Pack(d, l...)
		second, _ := bits.Pack(d, l...)
		clear(first[:cap(first)])
		packs(t, d, l, second)
		numbers, _ := bits.Unpack(d, 9, second)
		again, _ := bits.Unpack(d, 9, second)
		clear(numbers[:cap(numbers)])
		if !slices.Equal(again, l) {
			t.Errorf("two results of Unpack(%d, 9, ..) share memory", d)
		}
	}
}

func TestConcurrentCalls(t *testing.T) {
	var all sync.WaitGroup
	for i := range 8 {
		all.Go(func() {
			for d := 1; d <= 32; d++ {
				l := some(d, 50+i)
				packs(t, d, l, packing(d, l))
				noNumbers(t, d, i, make([]byte, 100))
			}
		})
	}
	all.Wait()
}
