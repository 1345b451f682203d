package kcode_test

import (
	"bytes"
	"errors"
	"math"
	"slices"
	"sync"
	"testing"

	"pyx/api"
	"pyx/fault"
	"pyx/hash"
	"pyx/kcode"
	"pyx/kring"
	"pyx/params"
)

const q = 3329

// otherAlgs are no algorithms of ML-KEM; some are like 1 to 3 in their low bits.
var otherAlgs = []int{-1, 0, 4, math.MinInt, math.MaxInt, math.MinInt + 1, math.MaxInt - 1, math.MinInt + 3, -3, -2, -255, -256, 5, 6, 7, 13, 18, 19, 20, 25, 26, 255, 256, 257, 258, 259, 1<<16 + 1, 1<<31 - 1, 1 << 31, 1<<31 + 1, 1<<32 + 1, 1<<32 + 2, 1<<32 + 3, -1<<32 + 1, 1<<62 + 1}

// places are the numbers of a polynomial.
const places = 256

// k returns the number of polynomials of a key.
func k(alg int) int { return alg + 1 }

// polys, publicSize and privateSize return sizes by the chapter's definitions.
func polys(alg int) int       { return 384 * k(alg) }
func publicSize(alg int) int  { return polys(alg) + 32 }
func privateSize(alg int) int { return polys(alg) + publicSize(alg) + 32 + 32 }

// sumAt and lastAt return the offsets of the hash and of the last 32 bytes.
func sumAt(alg int) int  { return polys(alg) + publicSize(alg) }
func lastAt(alg int) int { return sumAt(alg) + 32 }

// random returns a function that yields numbers less than limit which look random.
func random(seed int) func(limit int) int {
	state := uint64(seed)
	return func(limit int) int {
		state = state*6364136223846793005 + 1442695040888963407
		return int(state >> 33 % uint64(limit))
	}
}

// put writes the number i of 12 bits into b, bit by bit.
func put(b []byte, i, n int) {
	for bit := range 12 {
		at := 12*i + bit
		b[at/8] &^= 1 << (at % 8)
		b[at/8] |= byte(n >> bit & 1 << (at % 8))
	}
}

// number reads the number i of 12 bits from b, bit by bit.
func number(b []byte, i int) int {
	n := 0
	for bit := range 12 {
		at := 12*i + bit
		n |= int(b[at/8]>>(at%8)&1) << bit
	}
	return n
}

// packed returns the packing of numbers of 12 bits.
func packed(numbers ...int) []byte {
	b := make([]byte, (12*len(numbers)+7)/8)
	for i, n := range numbers {
		put(b, i, n)
	}
	return b
}

// with returns b with another number i of 12 bits.
func with(b []byte, i, n int) []byte {
	b = bytes.Clone(b)
	put(b, i, n)
	return b
}

// changed returns b with the byte at an offset combined by exclusive or with x.
func changed(b []byte, at int, x byte) []byte {
	b = bytes.Clone(b)
	b[at] ^= x
	return b
}

// joined returns the bytes of all parts.
func joined(parts ...[]byte) []byte { return bytes.Join(parts, nil) }

// reduced returns f with its coefficients modulo q.
func reduced(f kring.Poly) kring.Poly {
	for i, c := range f {
		f[i] = c % q
	}
	return f
}

// all returns the polynomial whose coefficients are all c.
func all(c uint16) kring.Poly {
	var f kring.Poly
	for i := range f {
		f[i] = c
	}
	return f
}

// some returns a polynomial whose coefficients look random and are less than
// limit.
func some(limit, seed int) kring.Poly {
	var f kring.Poly
	next := random(seed)
	for i := range f {
		f[i] = uint16(next(limit))
	}
	return f
}

// numbers returns the coefficients of a polynomial modulo q.
func numbers(f kring.Poly) []int {
	var l []int
	for _, c := range f {
		l = append(l, int(c)%q)
	}
	return l
}

// someBytes returns n bytes that look random.
func someBytes(n, seed int) []byte {
	b := make([]byte, n)
	next := random(seed)
	for i := range b {
		b[i] = byte(next(256))
	}
	return b
}

// someNumbers returns the packing of n numbers less than q that look random.
func someNumbers(n, seed int) []byte {
	next := random(seed)
	var l []int
	for range n {
		l = append(l, next(q))
	}
	return packed(l...)
}

// publicKey returns a public key.
func publicKey(alg, seed int) []byte {
	return joined(someNumbers(k(alg)*places, seed), someBytes(32, seed+1))
}

// privateWith returns an expanded private key with a public key and its hash.
func privateWith(alg int, public []byte, seed int) []byte {
	sum := hash.SHA256(public)
	return joined(someNumbers(k(alg)*places, seed), public, sum[:], someBytes(32, seed+1))
}

// privateKey returns an expanded private key.
func privateKey(alg, seed int) []byte {
	return privateWith(alg, publicKey(alg, seed+2), seed)
}

// first returns what First returns, as the chapter defines it.
func first(b []byte) int {
	if len(b)%3 != 0 {
		return -1
	}
	for i := range len(b) / 3 * 2 {
		if number(b, i) > q-1 {
			return 12 * i / 8
		}
	}
	return -1
}

// publicFault returns the error of a public key, as the chapter defines it.
func publicFault(alg int, key []byte) error {
	if alg < 1 || alg > 3 {
		return api.Fault{Code: api.Unknown}
	}
	if len(key) != publicSize(alg) {
		return api.Fault{Code: api.Length}
	}
	if at := first(key[:polys(alg)]); at >= 0 {
		return api.Fault{Code: api.Range, At: at}
	}
	return nil
}

// privateFault returns the error of an expanded private key, as the chapter
// defines it.
func privateFault(alg int, key []byte) error {
	if alg < 1 || alg > 3 {
		return api.Fault{Code: api.Unknown}
	}
	if len(key) != privateSize(alg) {
		return api.Fault{Code: api.Length}
	}
	for _, at := range []int{0, polys(alg)} {
		if i := first(key[at : at+polys(alg)]); i >= 0 {
			return api.Fault{Code: api.Range, At: at + i}
		}
	}
	sum := hash.SHA256(key[polys(alg):sumAt(alg)])
	if !bytes.Equal(sum[:], key[sumAt(alg):lastAt(alg)]) {
		return api.Fault{Code: api.Inconsistent, At: sumAt(alg)}
	}
	return nil
}

// told checks an error: it is nil, or the api.Fault itself that is wanted, which
// the library and package fault find in it.
func told(t *testing.T, what string, alg int, got, want error) {
	t.Helper()
	if want == nil {
		if got != nil {
			t.Errorf("%s of the algorithm %d: %#v, want nil", what, alg, got)
		}
		return
	}
	f, ok := got.(api.Fault)
	if !ok || f != want.(api.Fault) {
		t.Errorf("%s of the algorithm %d: %#v, want %#v", what, alg, got, want)
		return
	}
	at, ok := fault.At(got)
	if !ok || at != f.At || !errors.Is(got, f.Code) {
		t.Errorf("%s of the algorithm %d: the offset %d, %v of %#v", what, alg, at, ok, got)
	}
}

// judgePublic checks CheckPublic of a key.
func judgePublic(t *testing.T, alg int, key []byte, want error) {
	t.Helper()
	told(t, "CheckPublic", alg, kcode.CheckPublic(alg, key), want)
}

// judgePrivate checks CheckPrivate of a key, and that Public returns the public
// key in it exactly if there is no error.
func judgePrivate(t *testing.T, alg int, key []byte, want error) {
	t.Helper()
	told(t, "CheckPrivate", alg, kcode.CheckPrivate(alg, key), want)
	got, ok := kcode.Public(alg, key)
	switch {
	case want != nil && (ok || len(got) != 0):
		t.Errorf("Public of the algorithm %d: %d bytes, %v, want none", alg, len(got), ok)
	case want == nil && (!ok || !bytes.Equal(got, key[polys(alg):sumAt(alg)])):
		t.Errorf("Public of the algorithm %d: %x, %v, want a part of %x", alg, got, ok, key)
	}
}

// samePoly checks a result of Poly.
func samePoly(t *testing.T, what string, got kring.Poly, ok bool, want *kring.Poly) {
	t.Helper()
	switch {
	case want == nil && (ok || got != kring.Poly{}):
		t.Errorf("%s: %v, %v, want none", what, got, ok)
	case want != nil && (!ok || got != *want):
		t.Errorf("%s: %v, %v, want %v", what, got, ok, *want)
	}
}

// polynomials returns polynomials of equal coefficients, with one coefficient at
// each place, and many that look random; valid ones and others.
func polynomials() []kring.Poly {
	l := []kring.Poly{{}}
	for _, c := range []uint16{1, 255, 256, 2048, 3328, 3329, 3330, 4095, 4096, 6657, 6658, 65535} {
		l = append(l, all(c))
		for i := range places {
			f := kring.Poly{}
			f[i] = c
			g := all(3328)
			g[i] = c
			l = append(l, f, g)
		}
	}
	for seed := range 100 {
		l = append(l, some(q, seed), some(1<<12, seed), some(1<<16, seed))
	}
	return l
}

// P15.1

func TestBytes(t *testing.T) {
	for _, f := range polynomials() {
		if got, want := kcode.Bytes(f), packed(numbers(f)...); !bytes.Equal(got, want) || len(got) != 384 {
			t.Errorf("Bytes(%v): %x, want %x", f, got, want)
		}
	}
}

// Every coefficient is taken modulo 3329.
func TestBytesOfEachCoefficient(t *testing.T) {
	for c := 0; c < 1<<16; c += places {
		var f kring.Poly
		for i := range f {
			f[i] = uint16(c + i)
		}
		if got, want := kcode.Bytes(f), packed(numbers(f)...); !bytes.Equal(got, want) {
			t.Errorf("Bytes(%v): %x, want %x", f, got, want)
		}
	}
}

func TestKnownBytes(t *testing.T) {
	b := kcode.Bytes(kring.Poly{0: 0x123, 1: 0x456, 2: 3328, 3: 3330, 254: 3329, 255: 0x789})
	want := joined([]byte{0x23, 0x61, 0x45, 0x00, 0x1d, 0x00}, make([]byte, 375), []byte{0x00, 0x90, 0x78})
	if !bytes.Equal(b, want) {
		t.Errorf("Bytes: %x, want %x", b, want)
	}
	f, ok := kcode.Poly(want)
	samePoly(t, "Poly", f, ok, &kring.Poly{0: 0x123, 1: 0x456, 2: 3328, 3: 1, 255: 0x789})
}

func TestPolyOfOtherSizes(t *testing.T) {
	f := some(q, 1)
	long := joined(kcode.Bytes(f), kcode.Bytes(some(q, 2)), kcode.Bytes(f))
	for n := range len(long) + 1 {
		var want *kring.Poly
		if n == 384 {
			want = &f
		}
		got, ok := kcode.Poly(long[:n])
		samePoly(t, "Poly of a beginning", got, ok, want)
		zeros, ok := kcode.Poly(make([]byte, n))
		if ok != (n == 384) || zeros != (kring.Poly{}) {
			t.Errorf("Poly of %d zero bytes: %v, %v", n, zeros, ok)
		}
	}
	got, ok := kcode.Poly(nil)
	samePoly(t, "Poly of nil", got, ok, nil)
	got, ok = kcode.Poly(make([]byte, 384<<12))
	samePoly(t, "Poly of many bytes", got, ok, nil)
}

// polyWith checks Poly of the bytes of zeros, of 3328s and of numbers that look
// random, with the number i being n.
func polyWith(t *testing.T, i, n int) {
	t.Helper()
	for _, f := range []kring.Poly{{}, all(3328), some(q, i)} {
		b := with(packed(numbers(f)...), i, n)
		f[i] = uint16(n)
		var want *kring.Poly
		if n < q {
			want = &f
		}
		got, ok := kcode.Poly(b)
		samePoly(t, "Poly", got, ok, want)
	}
}

func TestPolyWithOneNumber(t *testing.T) {
	for i := range places {
		for _, n := range []int{0, 1, 2048, 3327, 3328, 3329, 3330, 4094, 4095} {
			polyWith(t, i, n)
		}
	}
}

func TestPolyWithEachNumber(t *testing.T) {
	for n := range 1 << 12 {
		for _, i := range []int{0, 1, 127, 254, 255} {
			polyWith(t, i, n)
		}
	}
}

// P15.6

func TestPolyInvertsBytes(t *testing.T) {
	for _, f := range polynomials() {
		want := reduced(f)
		got, ok := kcode.Poly(kcode.Bytes(f))
		samePoly(t, "Poly of Bytes", got, ok, &want)
	}
}

func TestBytesInvertsPoly(t *testing.T) {
	for seed := range 300 {
		b := someNumbers(places, seed)
		f, ok := kcode.Poly(b)
		if got := kcode.Bytes(f); !ok || !bytes.Equal(got, b) {
			t.Errorf("Bytes of Poly(%x), %v: %x", b, ok, got)
		}
	}
}

// P15.2

// judgeFirst checks First of bytes.
func judgeFirst(t *testing.T, b []byte, want int) {
	t.Helper()
	if got := kcode.First(b); got != want {
		t.Errorf("First of %d bytes %x: %d, want %d", len(b), b[:min(len(b), 2000)], got, want)
	}
}

func TestKnownFirst(t *testing.T) {
	for _, x := range []struct {
		b    []byte
		want int
	}{
		{nil, -1},
		{[]byte{}, -1},
		{[]byte{1, 13, 0}, 0},
		{[]byte{0, 13, 0}, -1},
		{[]byte{0, 208, 0}, -1},
		{[]byte{0, 0, 208}, -1},
		{[]byte{0, 16, 208}, 1},
		{[]byte{0, 0, 209}, 1},
		{[]byte{255, 15, 0}, 0},
		{[]byte{0, 240, 255}, 1},
		{[]byte{255, 255, 255}, 0},
		{[]byte{0, 0, 0, 1, 13, 0}, 3},
		{[]byte{0, 0, 0, 0, 16, 208}, 4},
		{[]byte{0, 16, 208, 255, 255, 255}, 1},
	} {
		judgeFirst(t, x.b, x.want)
	}
}

// The bytes of no whole pairs of numbers have none, whatever they are.
func TestFirstOfOtherSizes(t *testing.T) {
	for n := range 2000 {
		want := -1
		if n%3 == 0 && n > 0 {
			want = 0
		}
		judgeFirst(t, bytes.Repeat([]byte{255}, n), want)
		judgeFirst(t, make([]byte, n), -1)
	}
}

func TestFirstOfEachNumber(t *testing.T) {
	for n := range 1 << 12 {
		for _, other := range []int{0, 1, 3328, 3329, 4095} {
			b, c := packed(n, other), packed(other, n)
			judgeFirst(t, b, first(b))
			judgeFirst(t, c, first(c))
		}
	}
}

// The first number that is too great is at each place, and at an odd one too.
func TestFirstAtEachPlace(t *testing.T) {
	for _, size := range []int{3, 6, 9, 381, 384, 387, 768, 1152, 1536, 1539} {
		count := size / 3 * 2
		for i := range count {
			for _, b := range [][]byte{make([]byte, size), bytes.Repeat(packed(3328, 3328), size/3), someNumbers(count, i)} {
				judgeFirst(t, b, -1)
				judgeFirst(t, with(b, i, 3328), -1)
				judgeFirst(t, with(b, i, 3329), i*3/2)
				judgeFirst(t, with(b, i, 4095), i*3/2)
			}
		}
	}
}

func TestFirstOfSeveral(t *testing.T) {
	next := random(1)
	for seed := range 2000 {
		count := 2 + 2*next(512)
		b := someNumbers(count, seed)
		least := count
		for range 1 + next(5) {
			i := next(count)
			put(b, i, q+next(4096-q))
			least = min(least, i)
		}
		judgeFirst(t, b, least*3/2)
	}
	// Every number from the place i on.
	b := someNumbers(1024, 5)
	for i := 1023; i >= 0; i-- {
		put(b, i, 3329)
		judgeFirst(t, b, i*3/2)
	}
}

// There is no greatest number of bytes: more numbers than layer 5 unpacks.
func TestFirstOfManyBytes(t *testing.T) {
	const count = 1<<21 + 2
	b := make([]byte, count/2*3)
	judgeFirst(t, b, -1)
	for _, i := range []int{count - 1, count - 2, 1<<20 + 1, 1 << 20, 1<<20 - 1, 1000, 0} {
		put(b, i, 3329)
		judgeFirst(t, b, i*3/2)
	}
	judgeFirst(t, b[:len(b)-1], -1)
	judgeFirst(t, b[:len(b)-2], -1)
}

// P15.3 to P15.5: keys that are right

func TestSizes(t *testing.T) {
	for alg := 1; alg <= 3; alg++ {
		set, _ := params.Get(alg)
		if set.Public != publicSize(alg) || set.Private != privateSize(alg) {
			t.Errorf("the sizes %d and %d of %d differ from those of layer 13", publicSize(alg), privateSize(alg), alg)
		}
	}
}

func TestRightKeys(t *testing.T) {
	for alg := 1; alg <= 3; alg++ {
		for seed := range 50 {
			judgePublic(t, alg, publicKey(alg, seed), nil)
			judgePrivate(t, alg, privateKey(alg, seed), nil)
		}
		// All numbers of the polynomials are the least or the greatest ones.
		for _, n := range []int{0, 3328} {
			l := bytes.Repeat(packed(n, n), polys(alg)/3)
			public := joined(l, bytes.Repeat([]byte{255}, 32))
			judgePublic(t, alg, public, nil)
			sum := hash.SHA256(public)
			judgePrivate(t, alg, joined(l, public, sum[:], make([]byte, 32)), nil)
		}
	}
}

// Every number of the polynomials, rho and the last bytes may have other values;
// the hash is that of the public key with them.
func TestOtherRightKeys(t *testing.T) {
	for alg := 1; alg <= 3; alg++ {
		public, private := publicKey(alg, 1), privateKey(alg, 1)
		next := random(alg)
		for i := range k(alg) * places {
			n := next(q)
			other := with(public, i, n)
			judgePublic(t, alg, other, nil)
			judgePrivate(t, alg, privateWith(alg, other, i), nil)
			judgePrivate(t, alg, with(private, i, n), nil)
		}
		for i := range 32 {
			for _, x := range []byte{1, 16, 128, 255} {
				other := changed(public, polys(alg)+i, x)
				judgePublic(t, alg, other, nil)
				judgePrivate(t, alg, privateWith(alg, other, i), nil)
			}
		}
	}
}

func TestLastBytes(t *testing.T) {
	for alg := 1; alg <= 3; alg++ {
		private := privateKey(alg, 3)
		for i := range 32 {
			for _, x := range []byte{1, 2, 4, 8, 16, 32, 64, 128, 255} {
				judgePrivate(t, alg, changed(private, lastAt(alg)+i, x), nil)
			}
		}
		for _, x := range []byte{0, 1, 127, 128, 255} {
			judgePrivate(t, alg, joined(private[:lastAt(alg)], bytes.Repeat([]byte{x}, 32)), nil)
		}
	}
}

// P15.3 to P15.5: one error

func TestOtherAlgorithms(t *testing.T) {
	want := api.Fault{Code: api.Unknown}
	for _, other := range otherAlgs {
		judgePublic(t, other, nil, want)
		judgePrivate(t, other, nil, want)
		for alg := 1; alg <= 3; alg++ {
			judgePublic(t, other, publicKey(alg, 1), want)
			judgePrivate(t, other, privateKey(alg, 1), want)
		}
		// Keys of the sizes that the other algorithm has.
		if set, ok := params.Get(other); ok {
			judgePublic(t, other, make([]byte, set.Public), want)
			judgePrivate(t, other, make([]byte, set.Private), want)
		}
	}
	for other := range 1000 {
		if other > 3 {
			judgePublic(t, other, publicKey(1, 1), want)
			judgePrivate(t, other, privateKey(1, 1), want)
			judgePublic(t, -other, publicKey(1, 1), want)
			judgePrivate(t, -other, privateKey(1, 1), want)
		}
	}
}

func TestOtherSizes(t *testing.T) {
	want := api.Fault{Code: api.Length}
	var sizes []int
	for alg := 1; alg <= 25; alg++ {
		set, _ := params.Get(alg)
		sizes = append(sizes, set.Public, set.Private, set.Seed, set.Signature)
	}
	for alg := 1; alg <= 3; alg++ {
		judgePublic(t, alg, nil, want)
		judgePrivate(t, alg, nil, want)
		public := joined(publicKey(alg, 1), make([]byte, 4000))
		private := joined(privateKey(alg, 1), make([]byte, 4000))
		for n := range len(public) {
			if n != publicSize(alg) {
				judgePublic(t, alg, public[:n], want)
			}
		}
		for n := range len(private) {
			if n != privateSize(alg) {
				judgePrivate(t, alg, private[:n], want)
			}
		}
		for _, n := range sizes {
			if n != publicSize(alg) {
				judgePublic(t, alg, make([]byte, n), want)
			}
			if n != privateSize(alg) {
				judgePrivate(t, alg, make([]byte, n), want)
			}
		}
		judgePublic(t, alg, private[:privateSize(alg)], want)
		judgePrivate(t, alg, public[:publicSize(alg)], want)
		judgePublic(t, alg, make([]byte, 1<<20), want)
		judgePrivate(t, alg, make([]byte, 1<<20), want)
	}
}

func TestKeysOfOtherAlgorithms(t *testing.T) {
	for alg := 1; alg <= 3; alg++ {
		for other := 1; other <= 3; other++ {
			if other != alg {
				judgePublic(t, alg, publicKey(other, 1), api.Fault{Code: api.Length})
				judgePrivate(t, alg, privateKey(other, 1), api.Fault{Code: api.Length})
			}
		}
	}
}

func TestRangeInPublicKeys(t *testing.T) {
	for alg := 1; alg <= 3; alg++ {
		for i := range k(alg) * places {
			public := publicKey(alg, i)
			for _, n := range []int{3329, 4095} {
				judgePublic(t, alg, with(public, i, n), api.Fault{Code: api.Range, At: i * 3 / 2})
			}
		}
	}
}

// The hash is that of the public key, right or not.
func TestRangeInPrivateKeys(t *testing.T) {
	for alg := 1; alg <= 3; alg++ {
		private := privateKey(alg, 1)
		for i := range k(alg) * places {
			for _, n := range []int{3329, 4095} {
				want := api.Fault{Code: api.Range, At: i * 3 / 2}
				judgePrivate(t, alg, with(private, i, n), want)
				want.At += polys(alg)
				judgePrivate(t, alg, with(private, k(alg)*places+i, n), want)
				judgePrivate(t, alg, privateWith(alg, with(publicKey(alg, 3), i, n), 1), want)
			}
		}
	}
}

// Several numbers are too great: the first one is meant.
func TestSeveralRanges(t *testing.T) {
	next := random(1)
	for alg := 1; alg <= 3; alg++ {
		public, private := publicKey(alg, 1), privateKey(alg, 1)
		for range 300 {
			count := k(alg) * places
			i, j := next(count), next(count)
			want := api.Fault{Code: api.Range, At: min(i, j) * 3 / 2}
			judgePublic(t, alg, with(with(public, i, 3329), j, 4000), want)
			i, j = next(2*count), next(2*count)
			want.At = min(i, j) * 3 / 2
			judgePrivate(t, alg, with(with(private, i, 3329), j, 4000), want)
		}
	}
}

// The bytes after the polynomials are no numbers.
func TestOtherBytesHaveNoRange(t *testing.T) {
	for alg := 1; alg <= 3; alg++ {
		public := joined(publicKey(alg, 1)[:polys(alg)], bytes.Repeat([]byte{255}, 32))
		judgePublic(t, alg, public, nil)
		private := privateWith(alg, public, 1)
		judgePrivate(t, alg, private, nil)
		judgePrivate(t, alg, joined(private[:lastAt(alg)], bytes.Repeat([]byte{255}, 32)), nil)
		judgePrivate(t, alg, joined(private[:sumAt(alg)], bytes.Repeat([]byte{255}, 64)), api.Fault{Code: api.Inconsistent, At: sumAt(alg)})
	}
}

func TestOtherHashes(t *testing.T) {
	for alg := 1; alg <= 3; alg++ {
		want := api.Fault{Code: api.Inconsistent, At: sumAt(alg)}
		private := privateKey(alg, 1)
		for i := range 32 {
			for _, x := range []byte{1, 2, 4, 8, 16, 32, 64, 128, 255} {
				judgePrivate(t, alg, changed(private, sumAt(alg)+i, x), want)
			}
		}
		public := private[polys(alg):sumAt(alg)]
		wide := hash.SHA512(public)
		for _, sum := range [][]byte{make([]byte, 32), wide[:32], hash.Shake256(32, public), sha(public[:polys(alg)]), sha(private[:sumAt(alg)]), sha(public, private[lastAt(alg):]), sha(private[:polys(alg)]), private[lastAt(alg):]} {
			judgePrivate(t, alg, joined(private[:sumAt(alg)], sum, private[lastAt(alg):]), want)
		}
	}
}

// sha returns SHA3-256 of parts.
func sha(parts ...[]byte) []byte {
	sum := hash.SHA256(parts...)
	return sum[:]
}

// The hash is wrong if a byte of rho or a number of the public key is changed.
func TestOtherPublicKeysInPrivateKeys(t *testing.T) {
	for alg := 1; alg <= 3; alg++ {
		want := api.Fault{Code: api.Inconsistent, At: sumAt(alg)}
		private := privateKey(alg, 1)
		for i := range 32 {
			for _, x := range []byte{1, 2, 4, 8, 16, 32, 64, 128, 255} {
				judgePrivate(t, alg, changed(private, sumAt(alg)-32+i, x), want)
			}
		}
		for i := k(alg) * places; i < 2*k(alg)*places; i++ {
			judgePrivate(t, alg, with(private, i, (number(private, i)+1)%q), want)
		}
	}
}

// P15.3 and P15.4: several errors

// wrong changes a key, or the algorithm, so that an error applies.
type wrong struct {
	change func(alg int, key []byte) (int, []byte)
	want   api.Fault
}

// noAlg changes the algorithm to one that is none.
func noAlg(_ int, key []byte) (int, []byte) { return 0, key }

// tooShort takes the last byte away.
func tooShort(alg int, key []byte) (int, []byte) { return alg, key[:len(key)-1] }

// tooGreat returns a change of the number i.
func tooGreat(i int) func(alg int, key []byte) (int, []byte) {
	return func(alg int, key []byte) (int, []byte) { return alg, with(key, i, 3329) }
}

// otherByte returns a change of the byte at an offset.
func otherByte(at int) func(alg int, key []byte) (int, []byte) {
	return func(alg int, key []byte) (int, []byte) { return alg, changed(key, at, 1) }
}

// pairs checks a key with each error, and with each pair of them, which are made
// in both orders: the one that comes first in the list is meant.
func pairs(t *testing.T, alg int, key []byte, l []wrong, judge func(t *testing.T, alg int, key []byte, want error)) {
	t.Helper()
	for i, x := range l {
		a, b := x.change(alg, key)
		judge(t, a, b, x.want)
		for _, y := range l[i+1:] {
			a, b := y.change(x.change(alg, key))
			judge(t, a, b, x.want)
			a, b = x.change(y.change(alg, key))
			judge(t, a, b, x.want)
		}
	}
}

func TestFirstErrorOfPublicKeys(t *testing.T) {
	for alg := 1; alg <= 3; alg++ {
		pairs(t, alg, publicKey(alg, 1), []wrong{
			{noAlg, api.Fault{Code: api.Unknown}},
			{tooShort, api.Fault{Code: api.Length}},
			{tooGreat(3), api.Fault{Code: api.Range, At: 4}},
			{tooGreat(k(alg)*places - 1), api.Fault{Code: api.Range, At: polys(alg) - 2}},
		}, judgePublic)
	}
}

func TestFirstErrorOfPrivateKeys(t *testing.T) {
	for alg := 1; alg <= 3; alg++ {
		pairs(t, alg, privateKey(alg, 1), []wrong{
			{noAlg, api.Fault{Code: api.Unknown}},
			{tooShort, api.Fault{Code: api.Length}},
			{tooGreat(3), api.Fault{Code: api.Range, At: 4}},
			{tooGreat(k(alg)*places - 1), api.Fault{Code: api.Range, At: polys(alg) - 2}},
			{tooGreat(k(alg)*places + 3), api.Fault{Code: api.Range, At: polys(alg) + 4}},
			{tooGreat(2*k(alg)*places - 1), api.Fault{Code: api.Range, At: 2*polys(alg) - 2}},
			{otherByte(sumAt(alg)), api.Fault{Code: api.Inconsistent, At: sumAt(alg)}},
		}, judgePrivate)
	}
}

// Keys with a few changes are compared with the chapter's definitions.
func TestChangedKeys(t *testing.T) {
	next := random(9)
	for alg := 1; alg <= 3; alg++ {
		for seed := range 500 {
			public, private := publicKey(alg, seed), privateKey(alg, seed)
			for range next(3) {
				public[next(len(public))] ^= byte(1 << next(8))
				private[next(len(private))] ^= byte(1 << next(8))
			}
			judgePublic(t, alg, public, publicFault(alg, public))
			judgePrivate(t, alg, private, privateFault(alg, private))
		}
		for seed := range 200 {
			public, private := someBytes(publicSize(alg), seed), someBytes(privateSize(alg), seed)
			judgePublic(t, alg, public, publicFault(alg, public))
			judgePrivate(t, alg, private, privateFault(alg, private))
		}
	}
}

// Rules 4, 5, 7 and 8

// inside returns a copy of b that has other bytes before it, and after it in its
// capacity, and all of these bytes.
func inside(b []byte) (part, whole []byte) {
	whole = joined([]byte{1, 2, 3}, b, bytes.Repeat([]byte{77}, 500))
	return whole[3 : 3+len(b)], whole
}

// unchanged calls f with b and checks that it is not changed, nor what is around
// it.
func unchanged(t *testing.T, what string, b []byte, f func(b []byte)) {
	t.Helper()
	part, whole := inside(b)
	kept := bytes.Clone(whole)
	f(part)
	if !bytes.Equal(whole, kept) {
		t.Errorf("%s changes its argument", what)
	}
}

func TestArguments(t *testing.T) {
	for alg := 0; alg <= 4; alg++ {
		n := max(1, min(alg, 3))
		public, private := publicKey(n, 1), privateKey(n, 1)
		for _, key := range [][]byte{public, private, with(public, 5, 4095), with(private, 5, 4095), with(private, k(n)*places, 4095), changed(private, sumAt(n), 1), changed(private, lastAt(n), 1), private[:len(private)-1], nil} {
			unchanged(t, "CheckPublic", key, func(b []byte) { kcode.CheckPublic(alg, b) })
			unchanged(t, "CheckPrivate", key, func(b []byte) { kcode.CheckPrivate(alg, b) })
			unchanged(t, "Public", key, func(b []byte) { kcode.Public(alg, b) })
			unchanged(t, "First", key, func(b []byte) { kcode.First(b) })
		}
	}
	for _, f := range []kring.Poly{{}, some(q, 1), some(1<<16, 1)} {
		kept := f
		b := kcode.Bytes(f)
		if f != kept {
			t.Error("Bytes changes its argument")
		}
		unchanged(t, "Poly", b, func(b []byte) { kcode.Poly(b) })
		unchanged(t, "Poly", with(b, 255, 4095), func(b []byte) { kcode.Poly(b) })
		unchanged(t, "Poly", b[:383], func(b []byte) { kcode.Poly(b) })
	}
}

// The bytes after a key in its capacity are no part of it.
func TestCapacity(t *testing.T) {
	for alg := 1; alg <= 3; alg++ {
		public, _ := inside(publicKey(alg, 1))
		judgePublic(t, alg, public, nil)
		judgePublic(t, alg, public[:len(public)-1], api.Fault{Code: api.Length})
		private, _ := inside(privateKey(alg, 1))
		judgePrivate(t, alg, private, nil)
		judgePrivate(t, alg, private[:len(private)-1], api.Fault{Code: api.Length})
	}
}

// Public returns a copy, which shares no memory with the key or another result.
func TestPublicIsCopy(t *testing.T) {
	for alg := 1; alg <= 3; alg++ {
		key, whole := inside(privateKey(alg, 1))
		kept := bytes.Clone(whole)
		got, ok := kcode.Public(alg, key)
		again, _ := kcode.Public(alg, key)
		want := bytes.Clone(got)
		for i := range got {
			got[i] ^= 255
		}
		got = got[:cap(got)]
		clear(got)
		_ = append(again[:len(again):cap(again)], bytes.Repeat([]byte{9}, 200)...)
		if !ok || !bytes.Equal(whole, kept) || !bytes.Equal(again, want) {
			t.Errorf("Public of the algorithm %d shares memory", alg)
		}
		clear(key)
		if !bytes.Equal(again, want) {
			t.Errorf("Public of the algorithm %d keeps its argument", alg)
		}
	}
}

func TestBytesShareNoMemory(t *testing.T) {
	f := some(q, 1)
	b, again := kcode.Bytes(f), kcode.Bytes(f)
	clear(b[:cap(b)])
	if !bytes.Equal(again, packed(numbers(f)...)) {
		t.Error("the results of Bytes share memory")
	}
	g, _ := kcode.Poly(again)
	clear(again)
	if g != f {
		t.Error("the result of Poly is changed")
	}
}

// atOnce calls f in several goroutines that begin at the same time.
func atOnce(f func(number int)) {
	var done sync.WaitGroup
	begin := make(chan struct{})
	for number := range 12 {
		done.Go(func() {
			<-begin
			f(number)
		})
	}
	close(begin)
	done.Wait()
}

// The same keys are used by all goroutines, and others by each of them.
func TestConcurrentCalls(t *testing.T) {
	var public, private [4][]byte
	for alg := 1; alg <= 3; alg++ {
		public[alg], private[alg] = publicKey(alg, 1), privateKey(alg, 1)
	}
	atOnce(func(number int) {
		for i := range 20 {
			alg := 1 + (number+i)%3
			judgePublic(t, alg, public[alg], nil)
			judgePrivate(t, alg, private[alg], nil)
			judgePublic(t, alg, private[alg], api.Fault{Code: api.Length})
			judgePublic(t, number-12, public[alg], api.Fault{Code: api.Unknown})
			own := privateKey(alg, 100*number+i)
			judgePrivate(t, alg, own, nil)
			at := (number + i) * 7
			judgePrivate(t, alg, with(own, at, 3329), api.Fault{Code: api.Range, At: at * 3 / 2})
			judgePrivate(t, alg, with(private[alg], k(alg)*places+at, 3329), api.Fault{Code: api.Range, At: polys(alg) + at*3/2})
			judgePrivate(t, alg, changed(own, sumAt(alg)+number, 1), api.Fault{Code: api.Inconsistent, At: sumAt(alg)})
			f := some(1<<16, 100*number+i)
			want := reduced(f)
			got, ok := kcode.Poly(kcode.Bytes(f))
			samePoly(t, "Poly of Bytes", got, ok, &want)
			judgeFirst(t, private[alg][:2*polys(alg)], -1)
			judgeFirst(t, with(own, at, 4095)[:polys(alg)], at*3/2)
		}
	})
}

// The same calls have the same results, whatever was called in between.
func TestSameResults(t *testing.T) {
	results := func() (l []error) {
		for alg := 0; alg <= 4; alg++ {
			for _, key := range [][]byte{publicKey(1, 1), privateKey(2, 1), with(publicKey(3, 1), 9, 4095), with(privateKey(3, 1), 1030, 4095)} {
				l = append(l, kcode.CheckPublic(alg, key), kcode.CheckPrivate(alg, key))
			}
		}
		return l
	}
	before := results()
	for alg := 1; alg <= 3; alg++ {
		judgePrivate(t, alg, privateKey(alg, 7), nil)
		judgePrivate(t, alg, someBytes(privateSize(alg), 7), privateFault(alg, someBytes(privateSize(alg), 7)))
	}
	if !slices.Equal(results(), before) {
		t.Error("other results")
	}
}
