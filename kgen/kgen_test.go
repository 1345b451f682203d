package kgen_test

import (
	"bytes"
	"encoding/hex"
	"math"
	"slices"
	"sync"
	"testing"

	"pyx/hash"
	"pyx/kcode"
	"pyx/kgen"
	"pyx/kring"
	"pyx/params"
)

const q = 3329

// block is the number of bytes that SHAKE128 yields between two permutations.
const block = 168

// otherAlgs are no algorithms of ML-KEM; some are like 1 to 3 in their low bits.
var otherAlgs = []int{-1, 0, 4, math.MinInt, math.MaxInt, math.MinInt + 1, math.MinInt + 2, math.MinInt + 3, math.MaxInt - 1, -4, -3, -2, 5, 6, 7, 8, 12, 13, 18, 19, 20, 25, 26, 255, 256, 257, 258, 259, -255, -254, -253, 1<<16 + 1, 1<<31 - 1, 1 << 31, 1<<31 + 1, 1<<32 + 1, 1<<32 + 2, 1<<32 + 3, -1<<32 + 1, 1<<62 + 1}

// k returns the number of polynomials of a row.
func k(alg int) int { return alg + 1 }

// width returns the number e of an algorithm.
func width(alg int) int { return []int{1: 3, 2: 2, 3: 2}[alg] }

// random returns a function that yields numbers less than limit which look random.
func random(seed int) func(limit int) int {
	state := uint64(seed)
	return func(limit int) int {
		state = state*6364136223846793005 + 1442695040888963407
		return int(state >> 33 % uint64(limit))
	}
}

// someBytes returns n bytes that look random.
func someBytes(n, seed int) []byte {
	b := make([]byte, n)
	next := random(seed)
	for i := range b {
		b[i] = byte(next(256))
	}
	return b
}

// joined returns the bytes of all parts.
func joined(parts ...[]byte) []byte { return bytes.Join(parts, nil) }

// changed returns b with the byte at an offset combined by exclusive or with x.
func changed(b []byte, at int, x byte) []byte {
	b = bytes.Clone(b)
	b[at] ^= x
	return b
}

// ascending returns the bytes 0 to n - 1.
func ascending(n int) []byte {
	b := make([]byte, n)
	for i := range b {
		b[i] = byte(i)
	}
	return b
}

// inside returns a copy of b that has other bytes before it, and after it in its
// capacity, and all of these bytes.
func inside(b []byte) (part, whole []byte) {
	whole = joined([]byte{1, 2, 3}, b, bytes.Repeat([]byte{77}, 500))
	return whole[3 : 3+len(b)], whole
}

// unchanged calls f with b and checks that it is not changed, nor what is around
// it.
func unchanged(t *testing.T, what string, b []byte, f func(b []byte)) {
	t.Helper()
	part, whole := inside(b)
	kept := bytes.Clone(whole)
	f(part)
	if !bytes.Equal(whole, kept) {
		t.Errorf("%s changes its argument", what)
	}
}

// group returns the numbers that three bytes yield.
func group(b []byte) [2]int {
	return [2]int{int(b[0]) + 256*(int(b[1])%16), int(b[1])/16 + 16*int(b[2])}
}

// uniform returns the uniform polynomial of a seed as the chapter defines it, the
// number of bytes of the output up to its last coefficient, in whole groups, and
// the output.
func uniform(seed []byte) (kring.Poly, int, []byte) {
	out := hash.Shake128(10*block, seed)
	var less []int
	var after []int // for each number that is less, the bytes up to its group's end
	for at := 0; at < len(out); at += 3 {
		for _, n := range group(out[at : at+3]) {
			if n < q {
				less, after = append(less, n), append(after, at+3)
			}
		}
	}
	var f kring.Poly
	for i := range f {
		f[i] = uint16(less[i])
	}
	return f, after[255], out
}

// noise returns the noise of bytes as the chapter defines it.
func noise(e int, b []byte) kring.Poly {
	var all []int
	for _, c := range b {
		for bit := range 8 {
			all = append(all, int(c)>>bit&1)
		}
	}
	var f kring.Poly
	for i := range f {
		n := q
		for j, bit := range all[2*e*i : 2*e*(i+1)] {
			if j < e {
				n += bit
			} else {
				n -= bit
			}
		}
		f[i] = uint16(n % q)
	}
	return f
}

// matrix returns the matrix of rho as the chapter defines it.
func matrix(alg int, rho []byte) [][]kring.Poly {
	var rows [][]kring.Poly
	for i := range k(alg) {
		var row []kring.Poly
		for j := range k(alg) {
			f, _, _ := uniform(joined(rho, []byte{byte(j), byte(i)}))
			row = append(row, f)
		}
		rows = append(rows, row)
	}
	return rows
}

// sigmaNoise returns the transform of N of n as the chapter defines it.
func sigmaNoise(alg int, sigma []byte, n int) kring.Poly {
	e := width(alg)
	return kring.NTT(noise(e, hash.Shake256(64*e, sigma, []byte{byte(n)})))
}

// keys returns the keys of a seed as the chapter defines them.
func keys(alg int, seed []byte) (public, private []byte) {
	k := k(alg)
	g := hash.SHA512(seed[:32], []byte{byte(k)})
	rho, sigma := g[:32], g[32:]
	a := matrix(alg, rho)
	var first []byte
	for i := range k {
		var sum [256]int
		for c, n := range sigmaNoise(alg, sigma, k+i) {
			sum[c] = int(n)
		}
		for j := range k {
			for c, n := range kring.Mul(a[i][j], sigmaNoise(alg, sigma, j)) {
				sum[c] += int(n)
			}
		}
		var t kring.Poly
		for c, n := range sum {
			t[c] = uint16(n % q)
		}
		public = append(public, kcode.Bytes(t)...)
		first = append(first, kcode.Bytes(sigmaNoise(alg, sigma, i))...)
	}
	public = append(public, rho...)
	sum := hash.SHA256(public)
	return public, joined(first, public, sum[:], seed[32:])
}

// seeds returns n seeds of keys.
func seeds(n int) [][]byte {
	l := [][]byte{make([]byte, 64), bytes.Repeat([]byte{255}, 64), ascending(64), bytes.Repeat([]byte{128}, 64)}
	for i := range n - len(l) {
		l = append(l, someBytes(64, i))
	}
	return l
}

// P16.1

// judgeUniform checks Uniform of a seed, and returns the number of bytes and the
// output.
func judgeUniform(t *testing.T, seed []byte) (int, []byte) {
	t.Helper()
	f, n := kgen.Uniform(seed)
	want, size, out := uniform(seed)
	if f != want || n != size {
		t.Errorf("Uniform(%x): %v and %d, want %v and %d", seed, f, n, want, size)
	}
	if n%3 != 0 || n < 384 || !kring.Valid(f) {
		t.Errorf("Uniform(%x): %v and %d, which are none", seed, f, n)
	}
	return n, out
}

func TestUniformOfEachLength(t *testing.T) {
	judgeUniform(t, nil)
	judgeUniform(t, []byte{})
	for n := range 1001 {
		judgeUniform(t, someBytes(n, n))
		judgeUniform(t, make([]byte, n))
	}
}

func TestUniformOfOneByte(t *testing.T) {
	for c := range 256 {
		judgeUniform(t, []byte{byte(c)})
	}
}

// Each bit of a seed makes another polynomial.
func TestUniformOfEachBit(t *testing.T) {
	for _, n := range []int{1, 34, 1000} {
		plain, _ := kgen.Uniform(make([]byte, n))
		for at := range n {
			for _, x := range []byte{1, 128} {
				seed := changed(make([]byte, n), at, x)
				judgeUniform(t, seed)
				if f, _ := kgen.Uniform(seed); f == plain {
					t.Errorf("Uniform of %d bytes does not depend on the byte %d", n, at)
				}
			}
		}
	}
}

// The last group yields one coefficient or two, and a number that is left may be
// less than 3329 or not; the fewest and the most blocks of the output are needed.
func TestUniformOfManySeeds(t *testing.T) {
	const (
		both        = "both numbers of the last group"
		second      = "the second one, as the first one is too great"
		firstOfLess = "the first one, although the second one is less than 3329"
		firstAlone  = "the first one, and the second one is too great"
		fourth      = "more bytes than three blocks"
		noFourth    = "at most three blocks"
	)
	seen := map[string]int{}
	for i := range 4000 {
		n, out := judgeUniform(t, someBytes(34, i))
		count := 0 // of the numbers that are less, before the last group
		for at := 0; at < n-3; at += 3 {
			for _, number := range group(out[at:]) {
				if number < q {
					count++
				}
			}
		}
		last := group(out[n-3:])
		switch {
		case count == 254:
			seen[both]++
		case last[0] >= q:
			seen[second]++
		case last[1] < q:
			seen[firstOfLess]++
		default:
			seen[firstAlone]++
		}
		if n > 3*block {
			seen[fourth]++
		} else {
			seen[noFourth]++
		}
	}
	for _, what := range []string{both, second, firstOfLess, firstAlone, fourth, noFourth} {
		if seen[what] == 0 {
			t.Errorf("no seed needs %s", what)
		}
	}
}

// The bounds of the numbers are met: coefficients of 0 and of 3328, and numbers of
// 3329 that are passed over.
func TestUniformAtBounds(t *testing.T) {
	seen := map[int]int{}
	for i := range 300 {
		n, out := judgeUniform(t, someBytes(33, i))
		for at := 0; at < n; at += 3 {
			for _, number := range group(out[at:]) {
				seen[number]++
			}
		}
	}
	for _, number := range []int{0, 1, 255, 256, 3327, 3328, 3329, 3330, 4095} {
		if seen[number] == 0 {
			t.Errorf("no seed has the number %d", number)
		}
	}
}

// P16.2

// judgeNoise checks Noise of bytes.
func judgeNoise(t *testing.T, e int, b []byte) {
	t.Helper()
	if f, ok := kgen.Noise(e, b); !ok || f != noise(e, b) {
		t.Errorf("Noise(%d, %x): %v, %v, want %v", e, b, f, ok, noise(e, b))
	}
}

// noNoise checks that Noise returns none.
func noNoise(t *testing.T, e int, b []byte) {
	t.Helper()
	if f, ok := kgen.Noise(e, b); ok || f != (kring.Poly{}) {
		t.Errorf("Noise(%d, %d bytes): %v, %v, want none", e, len(b), f, ok)
	}
}

// pattern returns the polynomial whose coefficients are numbers again and again.
func pattern(numbers ...uint16) kring.Poly {
	var f kring.Poly
	for i := range f {
		f[i] = numbers[i%len(numbers)]
	}
	return f
}

func TestKnownNoise(t *testing.T) {
	for _, x := range []struct {
		e     int
		bytes []byte
		want  kring.Poly
	}{
		{2, []byte{0}, kring.Poly{}},
		{2, []byte{255}, kring.Poly{}},
		{3, []byte{0}, kring.Poly{}},
		{3, []byte{255}, kring.Poly{}},
		{2, []byte{1}, pattern(1, 0)},
		{2, []byte{4}, pattern(q-1, 0)},
		{2, []byte{0x10}, pattern(0, 1)},
		{2, []byte{0x80}, pattern(0, q-1)},
		{2, []byte{0x33}, pattern(2)},
		{2, []byte{0xcc}, pattern(q - 2)},
		{2, []byte{0x31}, pattern(1, 2)},
		{2, []byte{0x55}, pattern(0)},
		{3, []byte{7, 0, 0}, pattern(3, 0, 0, 0)},
		{3, []byte{0x38, 0, 0}, pattern(q-3, 0, 0, 0)},
		{3, []byte{0x40, 0, 0}, pattern(0, 1, 0, 0)},
		{3, []byte{0xc0, 1, 0}, pattern(0, 3, 0, 0)},
		{3, []byte{0, 0x0e, 0}, pattern(0, q-3, 0, 0)},
		{3, []byte{0, 0x70, 0}, pattern(0, 0, 3, 0)},
		{3, []byte{0, 0x80, 3}, pattern(0, 0, q-3, 0)},
		{3, []byte{0, 0, 0x1c}, pattern(0, 0, 0, 3)},
		{3, []byte{0, 0, 0xe0}, pattern(0, 0, 0, q-3)},
	} {
		b := bytes.Repeat(x.bytes, 64*x.e/len(x.bytes))
		if f, ok := kgen.Noise(x.e, b); !ok || f != x.want {
			t.Errorf("Noise(%d, %x again and again): %v, %v, want %v", x.e, x.bytes, f, ok, x.want)
		}
		judgeNoise(t, x.e, b)
	}
}

// A bit that is set makes the coefficient of its group 1 or -1, and no other one.
func TestNoiseOfEachBit(t *testing.T) {
	for e := 2; e <= 3; e++ {
		zeros, ones := make([]byte, 64*e), bytes.Repeat([]byte{255}, 64*e)
		for i := range 512 * e {
			var want, opposite kring.Poly
			want[i/(2*e)], opposite[i/(2*e)] = 1, q-1
			if i%(2*e) >= e {
				want, opposite = opposite, want
			}
			set, unset := changed(zeros, i/8, 1<<(i%8)), changed(ones, i/8, 1<<(i%8))
			if f, ok := kgen.Noise(e, set); !ok || f != want {
				t.Errorf("Noise(%d, the bit %d): %v, %v", e, i, f, ok)
			}
			if f, ok := kgen.Noise(e, unset); !ok || f != opposite {
				t.Errorf("Noise(%d, all bits but %d): %v, %v", e, i, f, ok)
			}
			judgeNoise(t, e, set)
			judgeNoise(t, e, unset)
		}
	}
}

func TestNoiseOfEachByte(t *testing.T) {
	for e := 2; e <= 3; e++ {
		for c := range 256 {
			judgeNoise(t, e, bytes.Repeat([]byte{byte(c)}, 64*e))
			for _, at := range []int{0, 1, 2, 63, 64 * e / 2, 64*e - 3, 64*e - 2, 64*e - 1} {
				judgeNoise(t, e, changed(make([]byte, 64*e), at, byte(c)))
			}
		}
	}
}

// The coefficients are all from -e to e, and the noise is a valid polynomial.
func TestNoiseOfRandomBytes(t *testing.T) {
	for e := 2; e <= 3; e++ {
		seen := map[uint16]bool{}
		for seed := range 500 {
			b := someBytes(64*e, seed)
			judgeNoise(t, e, b)
			f, _ := kgen.Noise(e, b)
			for _, c := range f {
				seen[c] = true
			}
		}
		for n := -e; n <= e; n++ {
			if c := uint16((n + q) % q); !seen[c] {
				t.Errorf("e = %d: no coefficient is %d", e, n)
			}
		}
		if len(seen) != 2*e+1 {
			t.Errorf("e = %d: the coefficients are %v", e, seen)
		}
	}
}

// Some of them are numbers whose product with 64 wraps around to 128 or 192.
func TestOtherNoise(t *testing.T) {
	others := []int{-1, 0, 1, 4, math.MinInt, math.MaxInt, math.MinInt + 1, math.MinInt + 2, math.MinInt + 3, math.MaxInt - 1, -4, -3, -2, 5, 6, 7, 8, 12, 255, 256, 258, 259, 1<<16 + 2, 1<<32 + 2, 1<<32 + 3, 1<<58 + 2, 1<<58 + 3, -1<<58 + 2, -1<<58 + 3}
	for _, e := range others {
		noNoise(t, e, nil)
		for n := range 600 {
			noNoise(t, e, make([]byte, n))
		}
		noNoise(t, e, someBytes(128, 1))
		noNoise(t, e, someBytes(192, 1))
	}
	for e := 4; e < 200; e++ {
		noNoise(t, e, someBytes(64*e, e))
		noNoise(t, -e, someBytes(64*e, e))
	}
	noNoise(t, 1, someBytes(64, 1))
}

func TestNoiseOfOtherSizes(t *testing.T) {
	for e := 2; e <= 3; e++ {
		noNoise(t, e, nil)
		for n := range 1000 {
			if n != 64*e {
				noNoise(t, e, someBytes(n, n))
				noNoise(t, e, make([]byte, n))
			}
		}
		noNoise(t, e, make([]byte, 1<<20))
		part, _ := inside(someBytes(64*e, e))
		judgeNoise(t, e, part)
		noNoise(t, e, part[:64*e-1])
		noNoise(t, e, part[:64*e+1])
	}
}

// P16.3

// judgeMatrix checks Matrix of rho.
func judgeMatrix(t *testing.T, alg int, rho []byte) {
	t.Helper()
	got, want := kgen.Matrix(alg, rho), matrix(alg, rho)
	if !slices.EqualFunc(got, want, slices.Equal[[]kring.Poly]) {
		t.Errorf("Matrix(%d, %x): %v, want %v", alg, rho, got, want)
	}
}

func TestMatrix(t *testing.T) {
	for alg := 1; alg <= 3; alg++ {
		judgeMatrix(t, alg, make([]byte, 32))
		judgeMatrix(t, alg, bytes.Repeat([]byte{255}, 32))
		judgeMatrix(t, alg, ascending(32))
		for seed := range 50 {
			judgeMatrix(t, alg, someBytes(32, seed))
		}
	}
}

// There are k rows of k polynomials; the byte j comes before the byte i.
func TestPlacesOfMatrix(t *testing.T) {
	for alg := 1; alg <= 3; alg++ {
		rho := someBytes(32, alg)
		rows := kgen.Matrix(alg, rho)
		if len(rows) != k(alg) {
			t.Fatalf("Matrix(%d): %d rows", alg, len(rows))
		}
		for i, row := range rows {
			if len(row) != k(alg) {
				t.Fatalf("Matrix(%d): %d polynomials in the row %d", alg, len(row), i)
			}
			for j, f := range row {
				right, _ := kgen.Uniform(joined(rho, []byte{byte(j), byte(i)}))
				wrong, _ := kgen.Uniform(joined(rho, []byte{byte(i), byte(j)}))
				if f != right || i != j && f == wrong {
					t.Errorf("Matrix(%d): the polynomial %d, %d is not that of its bytes", alg, i, j)
				}
			}
		}
	}
}

// The matrix of each algorithm begins with that of the one before it.
func TestMatrixOfEachAlgorithm(t *testing.T) {
	rho := someBytes(32, 1)
	for alg := 2; alg <= 3; alg++ {
		less, more := kgen.Matrix(alg-1, rho), kgen.Matrix(alg, rho)
		for i, row := range less {
			if !slices.Equal(row, more[i][:k(alg-1)]) {
				t.Errorf("Matrix(%d): another row %d", alg, i)
			}
		}
	}
}

// Each byte of rho makes other polynomials.
func TestMatrixOfEachByte(t *testing.T) {
	for alg := 1; alg <= 3; alg++ {
		rho := someBytes(32, 3)
		plain := kgen.Matrix(alg, rho)
		for at := range rho {
			rows := kgen.Matrix(alg, changed(rho, at, 64))
			for i, row := range rows {
				for j, f := range row {
					if f == plain[i][j] {
						t.Errorf("Matrix(%d): the polynomial %d, %d does not depend on the byte %d", alg, i, j, at)
					}
				}
			}
		}
	}
}

func TestOtherMatrices(t *testing.T) {
	none := func(alg int, rho []byte) {
		t.Helper()
		if rows := kgen.Matrix(alg, rho); len(rows) != 0 {
			t.Errorf("Matrix(%d, %d bytes): %d rows, want none", alg, len(rho), len(rows))
		}
	}
	for _, alg := range otherAlgs {
		none(alg, someBytes(32, 1))
		none(alg, nil)
		none(alg, make([]byte, 31))
	}
	for alg := 4; alg < 1000; alg++ {
		none(alg, make([]byte, 32))
		none(-alg, make([]byte, 32))
	}
	for alg := 1; alg <= 3; alg++ {
		none(alg, nil)
		for n := range 300 {
			if n != 32 {
				none(alg, someBytes(n, n))
			}
		}
		none(alg, make([]byte, 1<<20))
	}
}

// P16.4

// judgeKeys checks Keys of a seed, and returns the keys.
func judgeKeys(t *testing.T, alg int, seed []byte) (public, private []byte) {
	t.Helper()
	public, private, ok := kgen.Keys(alg, seed)
	first, second := keys(alg, seed)
	if !ok || !bytes.Equal(public, first) || !bytes.Equal(private, second) {
		t.Errorf("Keys(%d, %x): %x and %x, %v, want %x and %x", alg, seed, public, private, ok, first, second)
	}
	return public, private
}

func TestKeys(t *testing.T) {
	for alg := 1; alg <= 3; alg++ {
		for _, seed := range seeds(40) {
			judgeKeys(t, alg, seed)
		}
	}
}

// The hashes are those of the keys that another program of FIPS 203 makes of the
// seeds of zero bytes, of the bytes 0 to 63, and of bytes 255.
func TestKnownKeys(t *testing.T) {
	for _, x := range []struct {
		alg             int
		seed            []byte
		public, private string
	}{
		{1, make([]byte, 64), "e5bd1b37a75e0f092974e846e8c37c45487d60739f99351719a5394723262b3b", "c4d6b5ebc673f958555366a0e7f6f4849fac965157fd4e334d107460b3f3ef5d"},
		{2, make([]byte, 64), "07f81a8b0e266a3ee92d3a63cdae5cff921905544c9dd797a849e1d054180eca", "b476cca5af51be72dd16e096491931b4c7c2236772d3a091d6cff0287e83c70b"},
		{3, make([]byte, 64), "9f62e8c88195d7ad50b14514fbe94a887554204da7a40dafbe72c5e15d39e969", "ed78c8ae08ce4952cb6626fc14dfb008362ff13a92c9ea5afb09f47841908bb4"},
		{1, ascending(64), "82f101ff648063b376e2bb6c5b7455f655a50c2feadade150efa0e0e6f365aea", "0bd3f5df01098ac9c29d687c7f1bd0588a5573feeef8f1e3b4573fa7f6ab57c8"},
		{2, ascending(64), "a24e16d8f8f9383a95b77050f4d9fd2f5733eec1d63ef3c23ebf9918173669a7", "1149f17c3c4ac6ab1e3e2d9d8bd0171355ac0fa31bb8855c48ceade874c0864b"},
		{3, ascending(64), "61349e5c131a7e116a0463861d7d18663c5627c38c7147ddaadfd48acd7a4535", "f0db5d938027fcd9bad87847d52c14cf0c4abcf0703b749793f212111ffb303b"},
		{1, bytes.Repeat([]byte{255}, 64), "724f96152c301f9c2167327e0baccb68363fd8ed452557f1edd8c166a5058792", "e6a44d4022f7751217d2b8aa907265bb51f4ac8e16fb6b1ea215a72c00767cf9"},
		{2, bytes.Repeat([]byte{255}, 64), "60e00b9acb3bfb391eb3493e6547715bfee49debcb272ec3629254d1f574fb8d", "f9dec5faab2bf62212e6f3b4431576e562a8478f17717f735e3843a482b6b67a"},
		{3, bytes.Repeat([]byte{255}, 64), "68140bb2d1871dd621c2decf2b4f6edea1a74c66fe2e74a3c154a0f141fc520e", "ce5c51633b85548c8df4b8ca28933564fdf8b7c2586effd6f4d657444ebcbb36"},
	} {
		public, private, ok := kgen.Keys(x.alg, x.seed)
		first, second := hash.SHA256(public), hash.SHA256(private)
		if !ok || hex.EncodeToString(first[:]) != x.public || hex.EncodeToString(second[:]) != x.private {
			t.Errorf("Keys(%d, %x): keys with the hashes %x and %x, %v", x.alg, x.seed, first, second, ok)
		}
	}
}

// polys returns the polynomials with these bytes.
func polys(t *testing.T, b []byte) []kring.Poly {
	t.Helper()
	var l []kring.Poly
	for ; len(b) > 0; b = b[384:] {
		f, ok := kcode.Poly(b[:384])
		if !ok {
			t.Fatal("no valid polynomial")
		}
		l = append(l, f)
	}
	return l
}

// short checks that all coefficients of a polynomial are from -e to e, and some of
// them are not 0.
func short(t *testing.T, what string, alg int, f kring.Poly) {
	t.Helper()
	e := uint16(width(alg))
	for i, c := range f {
		if c > e && c < q-e {
			t.Errorf("%s of the algorithm %d: the coefficient %d is %d", what, alg, i, c)
		}
	}
	if f == (kring.Poly{}) {
		t.Errorf("%s of the algorithm %d is 0", what, alg)
	}
}

// What makes the keys fit each other: t less the product of the matrix and s is
// noise, as s is.
func TestKeysFit(t *testing.T) {
	for alg := 1; alg <= 3; alg++ {
		for _, seed := range seeds(10) {
			public, private, _ := kgen.Keys(alg, seed)
			end := 384 * k(alg)
			s := polys(t, private[:end])
			rows := kgen.Matrix(alg, public[end:])
			for i, f := range polys(t, public[:end]) {
				for j := range s {
					f = kring.Sub(f, kring.Mul(rows[i][j], s[j]))
				}
				short(t, "e", alg, kring.Inverse(f))
				short(t, "s", alg, kring.Inverse(s[i]))
			}
		}
	}
}

func TestOtherKeys(t *testing.T) {
	none := func(alg int, seed []byte) {
		t.Helper()
		if public, private, ok := kgen.Keys(alg, seed); ok || len(public) != 0 || len(private) != 0 {
			t.Errorf("Keys(%d, %d bytes): %d and %d bytes, %v, want none", alg, len(seed), len(public), len(private), ok)
		}
	}
	for _, alg := range otherAlgs {
		none(alg, someBytes(64, 1))
		none(alg, nil)
		none(alg, make([]byte, 63))
		set, _ := params.Get(alg)
		none(alg, make([]byte, set.Seed))
	}
	for alg := 4; alg < 1000; alg++ {
		none(alg, make([]byte, 64))
		none(-alg, make([]byte, 64))
	}
	for alg := 1; alg <= 3; alg++ {
		none(alg, nil)
		for n := range 300 {
			if n != 64 {
				none(alg, someBytes(n, n))
			}
		}
		none(alg, make([]byte, 1<<20))
		part, _ := inside(someBytes(64, 1))
		none(alg, part[:63])
		none(alg, part[:65])
	}
}

// Another byte of d makes other keys; one of z makes another end of the private
// key only.
func TestKeysOfEachByte(t *testing.T) {
	for alg := 1; alg <= 3; alg++ {
		seed := someBytes(64, alg)
		public, private, _ := kgen.Keys(alg, seed)
		for at := range seed {
			other := changed(seed, at, 1<<(at%8))
			first, second, ok := kgen.Keys(alg, other)
			if !ok || bytes.Equal(second, private) {
				t.Errorf("Keys(%d): the private key does not depend on the byte %d, %v", alg, at, ok)
			}
			if at < 32 {
				apart(t, alg, at, public, first)
				apart(t, alg, at, private[:len(private)-32], second[:len(second)-32])
				continue
			}
			if !bytes.Equal(first, public) || !bytes.Equal(second, joined(private[:len(private)-32], other[32:])) {
				t.Errorf("Keys(%d): the byte %d changes more than the last bytes", alg, at)
			}
		}
	}
}

// apart checks that two keys differ in each of their polynomials, and after them.
func apart(t *testing.T, alg, at int, a, b []byte) {
	t.Helper()
	for ; len(a) > 0; a, b = a[min(384, len(a)):], b[min(384, len(b)):] {
		n := min(384, len(a))
		if bytes.Equal(a[:n], b[:n]) {
			t.Errorf("Keys(%d): a part does not depend on the byte %d", alg, at)
		}
	}
}

// The number k is a part of what is hashed: the algorithms have no part in common.
func TestKeysOfEachAlgorithm(t *testing.T) {
	seed := someBytes(64, 1)
	parts := map[string]int{}
	for alg := 1; alg <= 3; alg++ {
		public, private, _ := kgen.Keys(alg, seed)
		for _, part := range slices.Concat(slices.Collect(slices.Chunk(public, 384)), slices.Collect(slices.Chunk(private[:384*k(alg)], 384))) {
			if other, ok := parts[string(part)]; ok {
				t.Errorf("the algorithms %d and %d have a part in common", other, alg)
			}
			parts[string(part)] = alg
		}
	}
}

// P16.5

func TestCost(t *testing.T) {
	for alg, want := range map[int]int64{1: 11, 2: 18, 3: 27, -1: 0, 0: 0, 4: 0, math.MinInt: 0, math.MaxInt: 0} {
		if got := kgen.Cost(alg); got != want {
			t.Errorf("Cost(%d): %d, want %d", alg, got, want)
		}
	}
	for alg := 1; alg <= 3; alg++ {
		if got, want := kgen.Cost(alg), int64(k(alg)*k(alg)+2*k(alg)+3); got != want {
			t.Errorf("Cost(%d): %d, want %d", alg, got, want)
		}
	}
}

func TestOtherCosts(t *testing.T) {
	none := func(alg int) {
		t.Helper()
		if got := kgen.Cost(alg); got != 0 {
			t.Errorf("Cost(%d): %d, want 0", alg, got)
		}
	}
	for _, alg := range otherAlgs {
		none(alg)
	}
	for alg := range 1000 {
		none(4 + alg)
		none(-alg)
	}
}

// P16.6

// fits checks what the sizes and kcode say of keys, and what lies in them.
func fits(t *testing.T, alg int, seed, public, private []byte) {
	t.Helper()
	set, _ := params.Get(alg)
	if len(public) != set.Public || len(private) != set.Private {
		t.Fatalf("Keys(%d, %x): %d and %d bytes, want %d and %d", alg, seed, len(public), len(private), set.Public, set.Private)
	}
	if err := kcode.CheckPublic(alg, public); err != nil {
		t.Errorf("Keys(%d, %x): %v in the public key", alg, seed, err)
	}
	if err := kcode.CheckPrivate(alg, private); err != nil {
		t.Errorf("Keys(%d, %x): %v in the private key", alg, seed, err)
	}
	if got, ok := kcode.Public(alg, private); !ok || !bytes.Equal(got, public) {
		t.Errorf("Keys(%d, %x): another public key in the private one", alg, seed)
	}
	g := hash.SHA512(seed[:32], []byte{byte(k(alg))})
	if !bytes.Equal(public[len(public)-32:], g[:32]) {
		t.Errorf("Keys(%d, %x): the public key does not end with rho", alg, seed)
	}
	if !bytes.Equal(private[len(private)-32:], seed[32:]) {
		t.Errorf("Keys(%d, %x): the private key does not end with z", alg, seed)
	}
}

func TestKeysAreRight(t *testing.T) {
	for alg := 1; alg <= 3; alg++ {
		if set, _ := params.Get(alg); set.Seed != 64 {
			t.Errorf("the seeds of %d have %d bytes", alg, set.Seed)
		}
		for _, seed := range seeds(200) {
			public, private, _ := kgen.Keys(alg, seed)
			fits(t, alg, seed, public, private)
		}
	}
}

// Rules 4, 5, 7 and 8

func TestArguments(t *testing.T) {
	for _, alg := range []int{-1, 0, 1, 2, 3, 4} {
		for _, n := range []int{0, 1, 31, 32, 33, 34, 63, 64, 65, 127, 128, 129, 167, 168, 191, 192, 193, 1000} {
			b := someBytes(n, n)
			unchanged(t, "Uniform", b, func(b []byte) { kgen.Uniform(b) })
			unchanged(t, "Noise", b, func(b []byte) { kgen.Noise(alg, b) })
			unchanged(t, "Matrix", b, func(b []byte) { kgen.Matrix(alg, b) })
			unchanged(t, "Keys", b, func(b []byte) { kgen.Keys(alg, b) })
		}
	}
}

// The bytes after an argument in its capacity are no part of it.
func TestCapacity(t *testing.T) {
	for alg := 1; alg <= 3; alg++ {
		seed, _ := inside(someBytes(64, alg))
		judgeKeys(t, alg, seed)
		rho, _ := inside(someBytes(32, alg))
		judgeMatrix(t, alg, rho)
		judgeUniform(t, rho)
	}
}

// wipe replaces the polynomials of a list, also in its capacity.
func wipe(l []kring.Poly) {
	l = l[:cap(l)]
	for i := range l {
		l[i] = pattern(65535)
	}
}

// A change of rho, or of a row that was returned, changes neither another row nor
// what another call returns.
func TestMatrixIsCopy(t *testing.T) {
	for alg := 1; alg <= 3; alg++ {
		rho := someBytes(32, alg)
		want := matrix(alg, rho)
		rows, again := kgen.Matrix(alg, rho), kgen.Matrix(alg, rho)
		for i, row := range rows {
			wipe(row)
			for j := i + 1; j < len(rows); j++ {
				if !slices.Equal(rows[j], want[j]) {
					t.Errorf("Matrix(%d): the rows %d and %d share memory", alg, i, j)
				}
			}
		}
		clear(rows)
		judgeMatrix(t, alg, rho)
		clear(rho)
		if !slices.EqualFunc(again, want, slices.Equal[[]kring.Poly]) {
			t.Errorf("Matrix(%d) shares memory with its argument or another result", alg)
		}
		judgeMatrix(t, alg, rho)
	}
}

// A change of the seed, or of a key that was returned, changes neither the other
// key nor what another call returns.
func TestKeysAreCopies(t *testing.T) {
	for alg := 1; alg <= 3; alg++ {
		seed := someBytes(64, alg)
		first, second := keys(alg, seed)
		public, private, _ := kgen.Keys(alg, seed)
		again, other, _ := kgen.Keys(alg, seed)
		clear(public[:cap(public)])
		if !bytes.Equal(private, second) {
			t.Errorf("Keys(%d): the keys share memory", alg)
		}
		clear(private[:cap(private)])
		if !bytes.Equal(seed, someBytes(64, alg)) {
			t.Errorf("Keys(%d): a key shares memory with the seed", alg)
		}
		judgeKeys(t, alg, seed)
		clear(seed)
		clear(other[len(other):cap(other)])
		clear(again[len(again):cap(again)])
		if !bytes.Equal(again, first) || !bytes.Equal(other, second) {
			t.Errorf("Keys(%d) shares memory with its argument or another result", alg)
		}
		judgeKeys(t, alg, seed)
	}
}

// atOnce calls f in several goroutines that begin at the same time.
func atOnce(f func(number int)) {
	var done sync.WaitGroup
	begin := make(chan struct{})
	for number := range 12 {
		done.Go(func() {
			<-begin
			f(number)
		})
	}
	close(begin)
	done.Wait()
}

// The same seeds are used by all goroutines, and others by each of them.
func TestConcurrentCalls(t *testing.T) {
	seed := someBytes(64, 1)
	noisy := [][]byte{2: someBytes(128, 1), 3: someBytes(192, 1)}
	atOnce(func(number int) {
		for i := range 5 {
			alg := 1 + (number+i)%3
			own := someBytes(64, 100*number+i)
			for _, b := range [][]byte{seed, own} {
				judgeUniform(t, b[:number])
				judgeMatrix(t, alg, b[:32])
				public, private := judgeKeys(t, alg, b)
				fits(t, alg, b, public, private)
			}
			for e := 2; e <= 3; e++ {
				judgeNoise(t, e, noisy[e])
				judgeNoise(t, e, someBytes(64*e, 100*number+i))
			}
			noNoise(t, number-12, noisy[2])
			if got := kgen.Cost(alg); got != int64(k(alg)*k(alg)+2*k(alg)+3) {
				t.Errorf("Cost(%d): %d", alg, got)
			}
		}
	})
}

// The same calls have the same results, whatever was called in between.
func TestSameResults(t *testing.T) {
	for range 2 {
		for alg := range 5 {
			seed := someBytes(64, 7)
			kgen.Keys(alg, seed)
			kgen.Matrix(alg, seed[:32])
			kgen.Noise(alg, someBytes(64*alg, 7))
			kgen.Keys(alg, seed[1:])
			judgeKeys(t, 1+alg%3, seed)
			judgeMatrix(t, 1+alg%3, seed[32:])
			judgeUniform(t, seed)
		}
	}
}
