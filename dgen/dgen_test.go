package dgen_test

import (
	"bytes"
	"encoding/binary"
	"encoding/hex"
	"math"
	"slices"
	"sync"
	"testing"

	"pyx/dcode"
	"pyx/dgen"
	"pyx/dring"
	"pyx/hash"
	"pyx/params"
)

const q = 8380417

// The numbers of bytes that SHAKE128 and SHAKE256 yield between two permutations.
const (
	block128 = 168
	block256 = 136
)

// otherAlgs are no algorithms of ML-DSA; some are like 4 to 6 in their low bits.
var otherAlgs = []int{-1, 0, 1, 2, 3, 7, 8, 9, 12, 13, 14, 18, 19, 20, 25, 26, math.MinInt, math.MaxInt, math.MinInt + 4, math.MinInt + 5, math.MinInt + 6, math.MaxInt - 1, -4, -5, -6, -252, -251, -250, 255, 256, 260, 261, 262, 1<<16 + 4, 1 << 31, 1<<31 + 4, 1<<31 + 5, 1<<32 + 4, 1<<32 + 5, 1<<32 + 6, -1<<32 + 4, 1<<62 + 4}

// otherWidths are neither 2 nor 4; some are like them in their low bits.
var otherWidths = []int{-1, 0, 1, 3, 5, 6, 7, 8, 15, 16, -2, -4, math.MinInt, math.MaxInt, math.MinInt + 2, math.MinInt + 4, math.MaxInt - 1, 256, 258, 260, -254, -252, 1<<16 + 2, 1<<31 + 4, 1<<32 + 2, 1<<32 + 4, -1<<32 + 2, -1<<32 + 4, 1<<62 + 2, 1<<62 + 4}

// k, l and e return the numbers of an algorithm as chapter 18 has them.
func k(alg int) int { return []int{4, 6, 8}[alg-4] }
func l(alg int) int { return []int{4, 5, 7}[alg-4] }
func e(alg int) int { return []int{2, 4, 2}[alg-4] }

// random returns a function that yields numbers less than limit which look random.
func random(seed int) func(limit int) int {
	state := uint64(seed)
	return func(limit int) int {
		state = state*6364136223846793005 + 1442695040888963407
		return int(state >> 32 % uint64(limit))
	}
}

// someBytes returns n bytes that look random.
func someBytes(n, seed int) []byte {
	b := make([]byte, n)
	next := random(seed)
	for i := range b {
		b[i] = byte(next(256))
	}
	return b
}

// joined returns the bytes of all parts.
func joined(parts ...[]byte) []byte { return bytes.Join(parts, nil) }

// changed returns b with the byte at an offset combined by exclusive or with x.
func changed(b []byte, at int, x byte) []byte {
	b = bytes.Clone(b)
	b[at] ^= x
	return b
}

// ascending returns the bytes 0 to n - 1.
func ascending(n int) []byte {
	b := make([]byte, n)
	for i := range b {
		b[i] = byte(i)
	}
	return b
}

// four returns the bytes of a number, the highest one first.
func four(n uint32) []byte { return binary.BigEndian.AppendUint32(nil, n) }

// inside returns a copy of b that has other bytes before it, and after it in its
// capacity, and all of these bytes.
func inside(b []byte) (part, whole []byte) {
	whole = joined([]byte{1, 2, 3}, b, bytes.Repeat([]byte{77}, 500))
	return whole[3 : 3+len(b)], whole
}

// unchanged calls f with b and checks that it is not changed, nor what is around
// it.
func unchanged(t *testing.T, what string, b []byte, f func(b []byte)) {
	t.Helper()
	part, whole := inside(b)
	kept := bytes.Clone(whole)
	f(part)
	if !bytes.Equal(whole, kept) {
		t.Errorf("%s changes its argument", what)
	}
}

// reduced reports whether all coefficients are less than q.
func reduced(f dring.Poly) bool {
	return !slices.ContainsFunc(f[:], func(c uint32) bool { return c >= q })
}

// coefficient returns the coefficient less than q that counts as n.
func coefficient(n int) uint32 { return uint32((n%q + q) % q) }

// packed returns the packing of numbers of d bits, made bit by bit.
func packed(d int, numbers []int) []byte {
	b := make([]byte, (d*len(numbers)+7)/8)
	for i, n := range numbers {
		for bit := range d {
			at := d*i + bit
			b[at/8] |= byte(n >> bit & 1 << (at % 8))
		}
	}
	return b
}

// number returns the number that the group of three bytes at an offset yields.
func number(b []byte, at int) int {
	return int(b[at]) + 256*int(b[at+1]) + 65536*(int(b[at+2])%128)
}

// uniform returns the uniform polynomial of a seed as the chapter defines it, the
// number of bytes of the output up to its last coefficient, and the output.
func uniform(seed []byte) (dring.Poly, int, []byte) {
	out := hash.Shake128(9*block128, seed)
	var less []int
	var after []int // for each number that is less, the bytes up to its group's end
	for at := 0; at < len(out); at += 3 {
		if n := number(out, at); n < q {
			less, after = append(less, n), append(after, at+3)
		}
	}
	var f dring.Poly
	for i := range f {
		f[i] = uint32(less[i])
	}
	return f, after[255], out
}

// smallNumber returns what a number from 0 to 15 yields, or false if it is nothing.
func smallNumber(e, x int) (int, bool) {
	if e == 2 {
		return []int{2, 1, 0, -1, -2, 2, 1, 0, -1, -2, 2, 1, 0, -1, -2, 0}[x], x < 15
	}
	return []int{4, 3, 2, 1, 0, -1, -2, -3, -4, 0, 0, 0, 0, 0, 0, 0}[x], x < 9
}

// small returns the small polynomial of a seed as the chapter defines it, the
// number of bytes of the output up to its last coefficient, and the output.
func small(e int, seed []byte) (dring.Poly, int, []byte) {
	out := hash.Shake256(5*block256, seed)
	var f dring.Poly
	count, used := 0, 0
	for at, c := range out {
		for _, x := range []int{int(c) % 16, int(c) / 16} {
			n, ok := smallNumber(e, x)
			if ok && count < 256 {
				f[count], used = coefficient(n), at+1
				count++
			}
		}
	}
	return f, used, out
}

// partsOf returns the parts of a coefficient less than q as the chapter defines
// them.
func partsOf(r int) (r1, r0 int) {
	r0 = r % 8192
	if r0 > 4096 {
		r0 -= 8192
	}
	return (r - r0) / 8192, r0
}

// material are the parts of the output that keys are made of.
type material struct{ rho, sigma, k []byte }

// materialOf returns it as the chapter defines it.
func materialOf(alg int, seed []byte) material {
	out := hash.Shake256(128, seed, []byte{byte(k(alg)), byte(l(alg))})
	return material{out[:32], out[32:96], out[96:]}
}

// secrets returns s1 and s2 as the chapter defines them.
func secrets(alg int, sigma []byte) (s1, s2 []dring.Poly) {
	var all []dring.Poly
	for n := range l(alg) + k(alg) {
		f, _, _ := small(e(alg), joined(sigma, []byte{byte(n), 0}))
		all = append(all, f)
	}
	return all[:l(alg)], all[l(alg):]
}

// sum returns the polynomial t[i] as the chapter defines it.
func sum(i int, rho []byte, s1, s2 []dring.Poly) dring.Poly {
	var products, t dring.Poly
	for j, f := range s1 {
		a, _, _ := uniform(joined(rho, []byte{byte(j), byte(i)}))
		for c, n := range dring.NTT(f) {
			products[c] = uint32((int(products[c]) + int(a[c])*int(n)) % q)
		}
	}
	for c, n := range dring.Inverse(products) {
		t[c] = (n + s2[i][c]) % q
	}
	return t
}

// keys returns the keys of a seed as the chapters define them.
func keys(alg int, seed []byte) (public, private []byte) {
	m := materialOf(alg, seed)
	s1, s2 := secrets(alg, m.sigma)
	public = bytes.Clone(m.rho)
	var low []byte
	for i := range s2 {
		var high, below []int
		for _, c := range sum(i, m.rho, s1, s2) {
			r1, r0 := partsOf(int(c))
			high, below = append(high, r1), append(below, 4096-r0)
		}
		public, low = append(public, packed(10, high)...), append(low, packed(13, below)...)
	}
	private = joined(m.rho, m.k, hash.Shake256(64, public))
	for _, f := range slices.Concat(s1, s2) {
		var below []int
		for _, c := range f {
			below = append(below, (e(alg)-int(c)+q)%q)
		}
		private = append(private, packed(smallBits(alg), below)...)
	}
	return public, append(private, low...)
}

// smallBits returns the bits of a number of s1 and s2.
func smallBits(alg int) int { return []int{3, 4, 3}[alg-4] }

// pieces cuts keys into rho, K, tr and the polynomials.
func pieces(alg int, public, private []byte) [][]byte {
	end := 128 + (l(alg)+k(alg))*32*smallBits(alg)
	out := [][]byte{public[:32], private[:32], private[32:64], private[64:128]}
	out = slices.AppendSeq(out, slices.Chunk(public[32:], 320))
	out = slices.AppendSeq(out, slices.Chunk(private[128:end], 32*smallBits(alg)))
	return slices.AppendSeq(out, slices.Chunk(private[end:], 416))
}

// seeds returns n seeds of keys.
func seeds(n int) [][]byte {
	all := [][]byte{make([]byte, 32), bytes.Repeat([]byte{255}, 32), ascending(32), bytes.Repeat([]byte{128}, 32)}
	for i := range n - len(all) {
		all = append(all, someBytes(32, i))
	}
	return all
}

// P19.1

// judgeUniform checks Uniform of a seed, and returns the number of bytes and the
// output.
func judgeUniform(t *testing.T, seed []byte) (int, []byte) {
	t.Helper()
	f, n := dgen.Uniform(seed)
	want, size, out := uniform(seed)
	if f != want || n != size {
		t.Errorf("Uniform(%x): %v and %d, want %v and %d", seed, f, n, want, size)
	}
	if n%3 != 0 || n < 768 || !reduced(f) {
		t.Errorf("Uniform(%x): %v and %d, which are none", seed, f, n)
	}
	return n, out
}

func TestUniformOfEachLength(t *testing.T) {
	judgeUniform(t, nil)
	judgeUniform(t, []byte{})
	for n := range 1001 {
		judgeUniform(t, someBytes(n, n))
		judgeUniform(t, make([]byte, n))
	}
}

func TestUniformOfOneByte(t *testing.T) {
	for c := range 256 {
		judgeUniform(t, []byte{byte(c)})
	}
}

// Each bit of a seed makes another polynomial.
func TestUniformOfEachBit(t *testing.T) {
	for _, n := range []int{1, 34, 1000} {
		plain, _ := dgen.Uniform(make([]byte, n))
		for at := range n {
			for _, x := range []byte{1, 128} {
				seed := changed(make([]byte, n), at, x)
				judgeUniform(t, seed)
				if f, _ := dgen.Uniform(seed); f == plain {
					t.Errorf("Uniform of %d bytes does not depend on the byte %d", n, at)
				}
			}
		}
	}
}

// No number is passed over, or several are, and numbers of bytes whose highest bit
// is 1 or 0 are taken.
func TestUniformOfManySeeds(t *testing.T) {
	seen := map[int]int{}
	high := 0
	for i := range 4000 {
		n, out := judgeUniform(t, someBytes(34, i))
		seen[n]++
		high += int(out[2] >> 7)
	}
	for n := 768; n <= 777; n += 3 {
		if seen[n] == 0 {
			t.Errorf("no seed needs %d bytes", n)
		}
	}
	if high == 0 || high == 4000 {
		t.Errorf("%d first groups have the highest bit", high)
	}
}

// The seeds have a number at the bounds, which is the coefficient with the index,
// or is passed over and comes before it.
func TestUniformAtBounds(t *testing.T) {
	for _, x := range []struct {
		seed   uint32
		number int
		at     int // of the group
		index  int
	}{
		{13294, 0, 720, 240},
		{84203, 1, 441, 147},
		{904, q - 2, 258, 86},
		{16335, q - 1, 78, 26},
		{1686, q, 456, 152},
		{26501, q + 1, 558, 186},
		{169693, 1<<23 - 1, 300, 100},
	} {
		_, out := judgeUniform(t, four(x.seed))
		if got := number(out, x.at); got != x.number {
			t.Errorf("the seed %d has the number %d at %d, want %d", x.seed, got, x.at, x.number)
		}
		f, n := dgen.Uniform(four(x.seed))
		if taken := f[x.index] == uint32(x.number); taken != (x.number < q) || n <= x.at {
			t.Errorf("Uniform(%d): the number %d is taken: %v", x.seed, x.number, taken)
		}
	}
}

// Five numbers are passed over, which is rare.
func TestUniformOfManyBytes(t *testing.T) {
	if n, _ := judgeUniform(t, four(10702)); n != 783 {
		t.Errorf("the seed needs %d bytes", n)
	}
}

// judgeSmall checks Small of a seed, and returns the number of bytes and the
// output.
func judgeSmall(t *testing.T, e int, seed []byte) (int, []byte) {
	t.Helper()
	f, n := dgen.Small(e, seed)
	want, size, out := small(e, seed)
	if f != want || n != size {
		t.Errorf("Small(%d, %x): %v and %d, want %v and %d", e, seed, f, n, want, size)
	}
	if n < 128 || !reduced(f) || dring.Norm(f) > uint32(e) {
		t.Errorf("Small(%d, %x): %v and %d, which are none", e, seed, f, n)
	}
	return n, out
}

func TestSmallOfEachLength(t *testing.T) {
	for _, e := range []int{2, 4} {
		judgeSmall(t, e, nil)
		judgeSmall(t, e, []byte{})
		for n := range 1001 {
			judgeSmall(t, e, someBytes(n, n))
			judgeSmall(t, e, make([]byte, n))
		}
	}
}

func TestSmallOfOneByte(t *testing.T) {
	for _, e := range []int{2, 4} {
		for c := range 256 {
			judgeSmall(t, e, []byte{byte(c)})
		}
	}
}

// Each bit of a seed makes another polynomial.
func TestSmallOfEachBit(t *testing.T) {
	for _, e := range []int{2, 4} {
		for _, n := range []int{1, 66, 1000} {
			plain, _ := dgen.Small(e, make([]byte, n))
			for at := range n {
				for _, x := range []byte{1, 128} {
					seed := changed(make([]byte, n), at, x)
					judgeSmall(t, e, seed)
					if f, _ := dgen.Small(e, seed); f == plain {
						t.Errorf("Small of %d bytes does not depend on the byte %d", n, at)
					}
				}
			}
		}
	}
}

// What a first number of the output yields is the first coefficient: each number
// is seen in the low and in the high half of a byte.
func TestSmallOfEachNumber(t *testing.T) {
	for _, e := range []int{2, 4} {
		seen := map[[2]int]bool{}
		for i := range 2000 {
			_, out := judgeSmall(t, e, four(uint32(i)))
			f, _ := dgen.Small(e, four(uint32(i)))
			low, high := int(out[0])%16, int(out[0])/16
			index := 0
			for half, x := range []int{low, high} {
				n, ok := smallNumber(e, x)
				seen[[2]int{half, x}] = true
				if ok && f[index] != coefficient(n) {
					t.Errorf("Small(%d, %d): the coefficient %d is %d, want %d", e, i, index, f[index], n)
				}
				if ok {
					index++
				}
			}
		}
		if len(seen) != 32 {
			t.Errorf("e = %d: %d first numbers", e, len(seen))
		}
	}
}

// The coefficients are all from -e to e.
func TestCoefficientsOfSmall(t *testing.T) {
	for _, e := range []int{2, 4} {
		seen := map[uint32]bool{}
		for seed := range 500 {
			f, _ := dgen.Small(e, someBytes(66, seed))
			for _, c := range f {
				seen[c] = true
			}
		}
		for n := -e; n <= e; n++ {
			if !seen[coefficient(n)] {
				t.Errorf("e = %d: no coefficient is %d", e, n)
			}
		}
		if len(seen) != 2*e+1 {
			t.Errorf("e = %d: the coefficients are %v", e, seen)
		}
	}
}

// The last coefficient is in the low half of its byte, and the high half is one
// that would yield another or none, or it is in the high half, and the low half
// yields one or none.
func TestSmallOfManySeeds(t *testing.T) {
	for _, e := range []int{2, 4} {
		seen := map[string]int{}
		for i := range 4000 {
			n, out := judgeSmall(t, e, someBytes(66, i))
			count := 0 // of the coefficients before the last byte
			for _, c := range out[:n-1] {
				for _, x := range []byte{c % 16, c / 16} {
					if _, ok := smallNumber(e, int(x)); ok {
						count++
					}
				}
			}
			_, low := smallNumber(e, int(out[n-1])%16)
			_, high := smallNumber(e, int(out[n-1])/16)
			switch {
			case count == 254 && low && high:
				seen["both"]++
			case count == 255 && low && high:
				seen["low, not high"]++
			case count == 255 && low:
				seen["low alone"]++
			case count == 255 && high:
				seen["high alone"]++
			}
		}
		for _, what := range []string{"both", "low, not high", "low alone", "high alone"} {
			if seen[what] == 0 {
				t.Errorf("e = %d: no last byte with: %s", e, what)
			}
		}
	}
}

// The seeds need one block of the output, or two, or three.
func TestSmallOfFewAndManyBytes(t *testing.T) {
	for _, x := range []struct {
		e    int
		seed uint32
		want int
	}{{2, 2635, 130}, {2, 6417, 130}, {2, 23795, 147}, {2, 32752, 147}, {4, 214047, 275}, {4, 312639, 282}} {
		if n, _ := judgeSmall(t, x.e, four(x.seed)); n != x.want {
			t.Errorf("Small(%d, %d) needs %d bytes, want %d", x.e, x.seed, n, x.want)
		}
	}
}

func TestOtherSmall(t *testing.T) {
	none := func(e int, seed []byte) {
		t.Helper()
		if f, n := dgen.Small(e, seed); n != 0 || f != (dring.Poly{}) {
			t.Errorf("Small(%d, %d bytes): %v and %d, want none", e, len(seed), f, n)
		}
	}
	for _, e := range otherWidths {
		for _, n := range []int{0, 1, 2, 4, 32, 66, 128, 1000} {
			none(e, someBytes(n, n))
			none(e, make([]byte, n))
		}
		none(e, nil)
	}
	for e := 5; e < 1000; e++ {
		none(e, someBytes(66, e))
		none(-e, someBytes(66, e))
	}
}

// P19.2

// rightParts reports whether Parts of a coefficient returns its parts.
func rightParts(r uint32) bool {
	r1, r0 := dgen.Parts(r)
	first, second := partsOf(int(r % q))
	return int(r1) == first && int(r0) == second
}

// judgeParts checks Parts of a coefficient. The first wrong one ends the test, as
// it is one of millions.
func judgeParts(t *testing.T, r uint32) {
	t.Helper()
	if !rightParts(r) {
		r1, r0 := dgen.Parts(r)
		t.Fatalf("Parts(%d): %d and %d", r, r1, r0)
	}
}

func TestKnownParts(t *testing.T) {
	for _, x := range []struct {
		r, r1 uint32
		r0    int32
	}{
		{0, 0, 0}, {1, 0, 1}, {4095, 0, 4095}, {4096, 0, 4096}, {4097, 1, -4095}, {8191, 1, -1}, {8192, 1, 0}, {8193, 1, 1},
		{12288, 1, 4096}, {12289, 2, -4095}, {q - 1, 1023, 0}, {q - 2, 1023, -1}, {q - 4096, 1023, -4095}, {q - 4097, 1022, 4096},
		{q, 0, 0}, {q + 4096, 0, 4096}, {q + 4097, 1, -4095}, {2*q - 1, 1023, 0}, {2 * q, 0, 0}, {512 * q, 0, 0}, {512*q - 1, 1023, 0},
		{1<<31 - 1, 256, -257}, {1 << 31, 256, -256}, {math.MaxUint32, 512, -513},
	} {
		if r1, r0 := dgen.Parts(x.r); r1 != x.r1 || r0 != x.r0 {
			t.Errorf("Parts(%d): %d and %d, want %d and %d", x.r, r1, r0, x.r1, x.r0)
		}
	}
}

// Each coefficient is made again of its parts, which are in their ranges.
func TestPartsOfEachCoefficient(t *testing.T) {
	for r := range uint32(q) {
		judgeParts(t, r)
		r1, r0 := dgen.Parts(r)
		if r0 < -4095 || r0 > 4096 || r1 > 1023 || int(r1)*8192+int(r0) != int(r) {
			t.Fatalf("Parts(%d): %d and %d, which are none", r, r1, r0)
		}
	}
}

func TestPartsModulo(t *testing.T) {
	for n := range uint32(513) {
		for near := range uint32(10000) {
			if near <= math.MaxUint32-n*q {
				judgeParts(t, n*q+near)
			}
			if near <= n*q {
				judgeParts(t, n*q-near)
			}
		}
	}
	for near := range uint32(100000) {
		judgeParts(t, math.MaxUint32-near)
		judgeParts(t, 1<<31-near)
		judgeParts(t, 1<<31+near)
	}
	next := random(1)
	for range 200000 {
		judgeParts(t, uint32(next(1<<32)))
	}
}

// P19.3

// judgeKeys checks Keys of a seed, and returns the keys.
func judgeKeys(t *testing.T, alg int, seed []byte) (public, private []byte) {
	t.Helper()
	public, private, ok := dgen.Keys(alg, seed)
	first, second := keys(alg, seed)
	if !ok || !bytes.Equal(public, first) || !bytes.Equal(private, second) {
		t.Errorf("Keys(%d, %x): %x and %x, %v, want %x and %x", alg, seed, public, private, ok, first, second)
	}
	return public, private
}

func TestKeys(t *testing.T) {
	for alg := 4; alg <= 6; alg++ {
		for _, seed := range seeds(40) {
			judgeKeys(t, alg, seed)
		}
	}
}

// The hashes are those of the keys that two other programs of FIPS 204 make of the
// seeds of zero bytes, of the bytes 0 to 31, and of bytes 255.
func TestKnownKeys(t *testing.T) {
	for _, x := range []struct {
		alg             int
		seed            []byte
		public, private string
	}{
		{4, make([]byte, 32), "0f3cf699dcd46ec303d7bf35b185988d452dfde433ada2413f1f0604d91c1d6a", "389cc952935bd876a4ed2c48b625f530bb9c012ddd8a1d1055e112c089e9fdcf"},
		{5, make([]byte, 32), "b0681bf95c4068feb39a3099dbcc299108cc779dbeed196debdea877074a37aa", "621bf6e9fdcbfc369b6f8789057b8ad20d2176c5ead9a9f066c1b22dd19710bb"},
		{6, make([]byte, 32), "7c85a243530be895a0d736cb9d79a7135be5ac80a224d6ea89d01bdc4771cddf", "1bf807bc5e11067234e9617099d5bfe11740fe14d4ca628e81941c1c53b9aaf4"},
		{4, ascending(32), "373c7bf2cac5bd2a6c35933bab0fa1c951f22247e1333383fcb618822080373f", "da0665a6d807669d06aeb7010507aa6bd4640641055462e38e37344a274f36a6"},
		{5, ascending(32), "1800725067e388d837d911fe4f66101cc1961b1bb755030dc574272cfb00013f", "4ecfbd119980b1090a7feda39c225539ffa3ef3ff673b239b60189bfd4541170"},
		{6, ascending(32), "e6cf50a9c2fa5234f59949ff61f8161db4d629532127f4aefa8bb10811ecfb1e", "db6218a2eeae53e567d25222055251eab0ba85d1c69aeb8a62253d2096fd96a2"},
		{4, bytes.Repeat([]byte{255}, 32), "06b606f4ad50678c3c4d48a5f8a859b077cbe0e718e6127956610d3ec80a74b7", "80235832f5d14b41cd65a88e2b6865a86f8bde70bcb1691bd34244603f36edc8"},
		{5, bytes.Repeat([]byte{255}, 32), "123eda80e865a1e8e6c3ac05c511f9c72a24e736ab95fc487be9205d2625196f", "ffe084677eb4fdd66d529a4fd04571ad321601b4d27247316ce333fa7e3782a5"},
		{6, bytes.Repeat([]byte{255}, 32), "7204fb507f6851a54dcfcf295c508491a7d5689a3e60329f82c2af85a785b37a", "c0ddaa4c95a71e92f461ed21e4e41e85dea5f1cd27f956a79fd9a4a55fb48db1"},
	} {
		public, private, ok := dgen.Keys(x.alg, x.seed)
		first, second := hash.SHA256(public), hash.SHA256(private)
		if !ok || hex.EncodeToString(first[:]) != x.public || hex.EncodeToString(second[:]) != x.private {
			t.Errorf("Keys(%d, %x): keys with the hashes %x and %x, %v", x.alg, x.seed, first, second, ok)
		}
	}
}

// split returns the parts of a private key.
func split(t *testing.T, alg int, private []byte) dcode.Private {
	t.Helper()
	p, err := dcode.Split(alg, private)
	if err != nil {
		t.Fatalf("Split(%d): %v", alg, err)
	}
	return p
}

// What makes the keys fit each other: the product of the matrix and s1, plus s2,
// less t0, is 8192 times the numbers of the public key. The byte j comes before
// the byte i in the seeds of the matrix.
func TestKeysFit(t *testing.T) {
	for alg := 4; alg <= 6; alg++ {
		for _, seed := range seeds(10) {
			public, private, _ := dgen.Keys(alg, seed)
			p := split(t, alg, private)
			for i := range k(alg) {
				f := dring.Sub(p.S2[i], p.T0[i])
				for j, s := range p.S1 {
					a, _ := dgen.Uniform(joined(public[:32], []byte{byte(j), byte(i)}))
					f = dring.Add(f, dring.Inverse(dring.Mul(a, dring.NTT(s))))
				}
				var numbers []int
				for _, c := range f {
					if c%8192 != 0 {
						t.Fatalf("Keys(%d, %x): t[%d] does not fit", alg, seed, i)
					}
					numbers = append(numbers, int(c)/8192)
				}
				if !bytes.Equal(packed(10, numbers), public[32+320*i:][:320]) {
					t.Errorf("Keys(%d, %x): the parts r1 of t[%d] do not fit", alg, seed, i)
				}
			}
		}
	}
}

// The numbers of s2 go on where those of s1 end, and are followed by a byte 0.
func TestPlacesOfSecrets(t *testing.T) {
	for alg := 4; alg <= 6; alg++ {
		for _, seed := range seeds(10) {
			_, private, _ := dgen.Keys(alg, seed)
			p := split(t, alg, private)
			m := materialOf(alg, seed)
			for n, f := range slices.Concat(p.S1, p.S2) {
				right, _ := dgen.Small(e(alg), joined(m.sigma, []byte{byte(n), 0}))
				wrong, _ := dgen.Small(e(alg), joined(m.sigma, []byte{0, byte(n)}))
				if f != right || n > 0 && f == wrong {
					t.Errorf("Keys(%d, %x): the small polynomial %d is not that of its bytes", alg, seed, n)
				}
			}
		}
	}
}

func TestOtherKeys(t *testing.T) {
	none := func(alg int, seed []byte) {
		t.Helper()
		if public, private, ok := dgen.Keys(alg, seed); ok || len(public) != 0 || len(private) != 0 {
			t.Errorf("Keys(%d, %d bytes): %d and %d bytes, %v, want none", alg, len(seed), len(public), len(private), ok)
		}
	}
	for _, alg := range otherAlgs {
		none(alg, someBytes(32, 1))
		none(alg, nil)
		none(alg, make([]byte, 31))
		set, _ := params.Get(alg)
		none(alg, make([]byte, set.Seed))
	}
	for alg := 7; alg < 1000; alg++ {
		none(alg, make([]byte, 32))
		none(-alg, make([]byte, 32))
	}
	for alg := 4; alg <= 6; alg++ {
		none(alg, nil)
		for n := range 300 {
			if n != 32 {
				none(alg, someBytes(n, n))
			}
		}
		none(alg, make([]byte, 1<<16+32))
		none(alg, make([]byte, 1<<20))
		part, _ := inside(someBytes(32, 1))
		none(alg, part[:31])
		none(alg, part[:33])
	}
}

// Each bit of a byte of the seed makes others of all parts of the keys.
func TestKeysOfEachByte(t *testing.T) {
	for alg := 4; alg <= 6; alg++ {
		seed := someBytes(32, alg)
		public, private, _ := dgen.Keys(alg, seed)
		plain := pieces(alg, public, private)
		for at := range seed {
			first, second, ok := dgen.Keys(alg, changed(seed, at, 1<<(at%8)))
			if !ok {
				t.Errorf("Keys(%d): no keys of another byte %d", alg, at)
				continue
			}
			for i, part := range pieces(alg, first, second) {
				if bytes.Equal(part, plain[i]) {
					t.Errorf("Keys(%d): the part %d does not depend on the byte %d", alg, i, at)
				}
			}
		}
	}
}

// The numbers k and l are parts of what is hashed: the algorithms have no part in
// common, nor does one have a part twice, but for rho.
func TestKeysOfEachAlgorithm(t *testing.T) {
	seed := someBytes(32, 1)
	parts := map[string]int{}
	for alg := 4; alg <= 6; alg++ {
		public, private, _ := dgen.Keys(alg, seed)
		for _, part := range pieces(alg, public, private)[1:] {
			if other, ok := parts[string(part)]; ok {
				t.Errorf("the algorithms %d and %d have a part in common", other, alg)
			}
			parts[string(part)] = alg
		}
	}
}

// P19.4

func TestCost(t *testing.T) {
	for alg, want := range map[int]int64{4: 26, 5: 43, 6: 73, -1: 0, 0: 0, 3: 0, 7: 0, math.MinInt: 0, math.MaxInt: 0} {
		if got := dgen.Cost(alg); got != want {
			t.Errorf("Cost(%d): %d, want %d", alg, got, want)
		}
	}
	for alg := 4; alg <= 6; alg++ {
		if got, want := dgen.Cost(alg), int64(k(alg)*l(alg)+k(alg)+l(alg)+2); got != want {
			t.Errorf("Cost(%d): %d, want %d", alg, got, want)
		}
	}
}

func TestOtherCosts(t *testing.T) {
	none := func(alg int) {
		t.Helper()
		if got := dgen.Cost(alg); got != 0 {
			t.Errorf("Cost(%d): %d, want 0", alg, got)
		}
	}
	for _, alg := range otherAlgs {
		none(alg)
	}
	for alg := range 1000 {
		none(7 + alg)
		none(-alg)
	}
}

// P19.5

// fits checks what the sizes and dcode say of keys, and what lies in them.
func fits(t *testing.T, alg int, seed, public, private []byte) {
	t.Helper()
	set, _ := params.Get(alg)
	if len(public) != set.Public || len(private) != set.Private {
		t.Fatalf("Keys(%d, %x): %d and %d bytes, want %d and %d", alg, seed, len(public), len(private), set.Public, set.Private)
	}
	if err := dcode.CheckPublic(alg, public); err != nil {
		t.Errorf("Keys(%d, %x): %v in the public key", alg, seed, err)
	}
	if err := dcode.CheckPrivate(alg, private); err != nil {
		t.Errorf("Keys(%d, %x): %v in the private key", alg, seed, err)
	}
	p, m := split(t, alg, private), materialOf(alg, seed)
	if !bytes.Equal(public[:32], m.rho) || !bytes.Equal(p.Rho, m.rho) || !bytes.Equal(p.K, m.k) {
		t.Errorf("Keys(%d, %x): rho or K is wrong", alg, seed)
	}
	if !bytes.Equal(p.Tr, hash.Shake256(64, public)) {
		t.Errorf("Keys(%d, %x): tr is not of the public key", alg, seed)
	}
	for i, f := range slices.Concat(p.S1, p.S2) {
		if dring.Norm(f) != uint32(e(alg)) {
			t.Errorf("Keys(%d, %x): the small polynomial %d has the norm %d", alg, seed, i, dring.Norm(f))
		}
	}
}

func TestKeysAreRight(t *testing.T) {
	for alg := 4; alg <= 6; alg++ {
		if set, _ := params.Get(alg); set.Seed != 32 {
			t.Errorf("the seeds of %d have %d bytes", alg, set.Seed)
		}
		for _, seed := range seeds(200) {
			public, private, _ := dgen.Keys(alg, seed)
			fits(t, alg, seed, public, private)
		}
	}
}

// Rules 4, 5, 7 and 8

func TestArguments(t *testing.T) {
	for _, n := range []int{0, 1, 31, 32, 33, 34, 63, 64, 65, 66, 135, 136, 137, 167, 168, 169, 1000} {
		b := someBytes(n, n)
		unchanged(t, "Uniform", b, func(b []byte) { dgen.Uniform(b) })
		for alg := range 8 {
			unchanged(t, "Small", b, func(b []byte) { dgen.Small(alg, b) })
			unchanged(t, "Keys", b, func(b []byte) { dgen.Keys(alg, b) })
		}
	}
}

// The bytes after an argument in its capacity are no part of it.
func TestCapacity(t *testing.T) {
	for alg := 4; alg <= 6; alg++ {
		seed, _ := inside(someBytes(32, alg))
		judgeKeys(t, alg, seed)
		judgeUniform(t, seed)
		judgeSmall(t, e(alg), seed)
	}
}

// A change of the seed, or of a key that was returned, changes neither the other
// key nor what another call returns.
func TestKeysAreCopies(t *testing.T) {
	for alg := 4; alg <= 6; alg++ {
		seed := someBytes(32, alg)
		first, second := keys(alg, seed)
		public, private, _ := dgen.Keys(alg, seed)
		again, other, _ := dgen.Keys(alg, seed)
		clear(public[:cap(public)])
		if !bytes.Equal(private, second) {
			t.Errorf("Keys(%d): the keys share memory", alg)
		}
		clear(private[:cap(private)])
		if !bytes.Equal(seed, someBytes(32, alg)) {
			t.Errorf("Keys(%d): a key shares memory with the seed", alg)
		}
		judgeKeys(t, alg, seed)
		clear(seed)
		clear(other[len(other):cap(other)])
		clear(again[len(again):cap(again)])
		if !bytes.Equal(again, first) || !bytes.Equal(other, second) {
			t.Errorf("Keys(%d) shares memory with its argument or another result", alg)
		}
		judgeKeys(t, alg, seed)
	}
}

// atOnce calls f in several goroutines that begin at the same time.
func atOnce(f func(number int)) {
	var done sync.WaitGroup
	begin := make(chan struct{})
	for number := range 12 {
		done.Go(func() {
			<-begin
			f(number)
		})
	}
	close(begin)
	done.Wait()
}

// The same seeds are used by all goroutines, and others by each of them.
func TestConcurrentCalls(t *testing.T) {
	seed := someBytes(32, 1)
	atOnce(func(number int) {
		for i := range 5 {
			alg := 4 + (number+i)%3
			own := someBytes(32, 100*number+i)
			for _, b := range [][]byte{seed, own} {
				judgeUniform(t, b[:number])
				judgeSmall(t, 2, b[:number])
				judgeSmall(t, 4, b[:number])
				judgeKeys(t, alg, b)
			}
			if r := uint32(1000000*number + i); !rightParts(r) {
				t.Errorf("Parts(%d) is wrong", r)
			}
			if f, n := dgen.Small(3, seed); n != 0 || f != (dring.Poly{}) {
				t.Errorf("Small(3): %v and %d", f, n)
			}
			if got := dgen.Cost(alg); got != int64(k(alg)*l(alg)+k(alg)+l(alg)+2) {
				t.Errorf("Cost(%d): %d", alg, got)
			}
		}
	})
}

// The same calls have the same results, whatever was called in between.
func TestSameResults(t *testing.T) {
	for range 2 {
		for alg := range 8 {
			seed := someBytes(32, 7)
			dgen.Keys(alg, seed)
			dgen.Small(alg, seed)
			dgen.Keys(alg, seed[1:])
			judgeKeys(t, 4+alg%3, seed)
			judgeSmall(t, 2+alg%2*2, seed)
			judgeUniform(t, seed)
			judgeParts(t, uint32(alg*4096))
		}
	}
}
