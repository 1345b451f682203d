package dcode_test

import (
	"bytes"
	"errors"
	"math"
	"reflect"
	"slices"
	"sync"
	"testing"

	"pyx/api"
	"pyx/dcode"
	"pyx/dring"
	"pyx/fault"
	"pyx/params"
)

const q = 8380417

// places are the numbers of a polynomial.
const places = 256

// otherAlgs are no algorithms of ML-DSA; some are like 4 to 6 in their low bits.
var otherAlgs = []int{-1, 0, 1, 2, 3, 7, 8, 9, 13, 18, 19, 20, 25, 26, math.MinInt, math.MaxInt, math.MinInt + 4, math.MinInt + 5, math.MinInt + 6, -4, -5, -6, -252, -251, -250, 255, 256, 260, 261, 262, 1<<16 + 4, 1 << 31, 1<<31 + 4, 1<<32 + 4, 1<<32 + 5, 1<<32 + 6, -1<<32 + 4, 1<<62 + 4}

// k, l and e return the numbers of an algorithm as the chapter has them.
func k(alg int) int { return []int{4, 6, 8}[alg-4] }
func l(alg int) int { return []int{4, 5, 7}[alg-4] }
func e(alg int) int { return []int{2, 4, 2}[alg-4] }

// width returns the bits of the numbers of s1 and s2, small the bytes of one of
// these polynomials, and great those of one of t0.
func width(alg int) int { return []int{3, 4, 3}[alg-4] }
func small(alg int) int { return places * width(alg) / 8 }

const great = places * 13 / 8

// smalls returns the number of polynomials of s1 and s2 together, and t0At the
// offset of t0.
func smalls(alg int) int { return l(alg) + k(alg) }
func t0At(alg int) int   { return 128 + smalls(alg)*small(alg) }

func publicSize(alg int) int  { return 32 + k(alg)*places*10/8 }
func privateSize(alg int) int { return t0At(alg) + k(alg)*great }

// random returns a function that yields numbers less than limit which look random.
func random(seed int) func(limit int) int {
	state := uint64(seed)
	return func(limit int) int {
		state = state*6364136223846793005 + 1442695040888963407
		return int(state >> 32 % uint64(limit))
	}
}

// someBytes returns n bytes that look random.
func someBytes(n, seed int) []byte {
	b := make([]byte, n)
	next := random(seed)
	for i := range b {
		b[i] = byte(next(256))
	}
	return b
}

// someNumbers returns n numbers less than limit that look random.
func someNumbers(n, limit, seed int) []int {
	numbers := make([]int, n)
	next := random(seed)
	for i := range numbers {
		numbers[i] = next(limit)
	}
	return numbers
}

// put writes the number i of d bits into b, bit by bit.
func put(b []byte, d, i, n int) {
	for bit := range d {
		at := d*i + bit
		b[at/8] &^= 1 << (at % 8)
		b[at/8] |= byte(n >> bit & 1 << (at % 8))
	}
}

// number reads the number i of d bits from b, bit by bit.
func number(b []byte, d, i int) int {
	n := 0
	for bit := range d {
		at := d*i + bit
		n |= int(b[at/8]>>(at%8)&1) << bit
	}
	return n
}

// packed returns the packing of numbers of d bits.
func packed(d int, numbers ...int) []byte {
	b := make([]byte, (d*len(numbers)+7)/8)
	for i, n := range numbers {
		put(b, d, i, n)
	}
	return b
}

// changed returns b with the byte at an offset combined by exclusive or with x.
func changed(b []byte, at int, x byte) []byte {
	b = bytes.Clone(b)
	b[at] ^= x
	return b
}

// joined returns the bytes of all parts.
func joined(parts ...[]byte) []byte { return bytes.Join(parts, nil) }

// centred returns what a coefficient counts as.
func centred(c uint32) int {
	n := int(c % q)
	if n > (q-1)/2 {
		n -= q
	}
	return n
}

// coefficient returns the coefficient less than q that counts as n.
func coefficient(n int) uint32 { return uint32((n%q + q) % q) }

// reduced returns f with its coefficients modulo q.
func reduced(f dring.Poly) dring.Poly {
	for i, c := range f {
		f[i] = c % q
	}
	return f
}

// raised returns f with as many times q added to each coefficient as there is room
// for, or fewer.
func raised(f dring.Poly, seed int) dring.Poly {
	next := random(seed)
	for i, c := range f {
		f[i] = c%q + q*uint32(next(1+(math.MaxUint32-int(c%q))/q))
	}
	return f
}

// all returns the polynomial whose coefficients all count as n.
func all(n int) dring.Poly {
	var f dring.Poly
	for i := range f {
		f[i] = coefficient(n)
	}
	return f
}

// with returns f with the coefficient c of X^i.
func with(f dring.Poly, i int, c uint32) dring.Poly {
	f[i] = c
	return f
}

// polyOf returns the polynomial with the packed numbers for top.
func polyOf(top int, numbers []int) dring.Poly {
	var f dring.Poly
	for i, n := range numbers {
		f[i] = coefficient(top - n)
	}
	return f
}

// packing returns what Pack returns, as the chapter defines it.
func packing(f dring.Poly, top, d int) ([]byte, bool) {
	var numbers []int
	for _, c := range f {
		n := top - centred(c)
		if n < 0 || n > 1<<d-1 {
			return nil, false
		}
		numbers = append(numbers, n)
	}
	return packed(d, numbers...), true
}

// parts are the numbers of a private key as they are packed.
type parts struct {
	rho, k, tr []byte
	s1, s2, t0 [][]int
}

// lists returns n lists of the numbers of a polynomial, which look random and are
// less than limit.
func lists(n, limit, seed int) [][]int {
	var out [][]int
	for i := range n {
		out = append(out, someNumbers(places, limit, 100*seed+i))
	}
	return out
}

// someParts returns the parts of a right key, which look random.
func someParts(alg, seed int) parts {
	limit := 2*e(alg) + 1
	return parts{
		someBytes(32, seed+1), someBytes(32, seed+2), someBytes(64, seed+3),
		lists(l(alg), limit, seed+4), lists(k(alg), limit, seed+5), lists(k(alg), 1<<13, seed+6),
	}
}

// bytes returns the key with parts.
func (p parts) bytes(alg int) []byte {
	key := joined(p.rho, p.k, p.tr)
	for _, numbers := range slices.Concat(p.s1, p.s2) {
		key = append(key, packed(width(alg), numbers...)...)
	}
	for _, numbers := range p.t0 {
		key = append(key, packed(13, numbers...)...)
	}
	return key
}

// private returns the parts as Split does.
func (p parts) private(alg int) dcode.Private {
	polys := func(top int, part [][]int) []dring.Poly {
		var out []dring.Poly
		for _, numbers := range part {
			out = append(out, polyOf(top, numbers))
		}
		return out
	}
	return dcode.Private{
		Rho: bytes.Clone(p.rho), K: bytes.Clone(p.k), Tr: bytes.Clone(p.tr),
		S1: polys(e(alg), p.s1), S2: polys(e(alg), p.s2), T0: polys(4096, p.t0),
	}
}

// privateKey and privateParts return a right private key and its parts.
func privateKey(alg, seed int) []byte          { return someParts(alg, seed).bytes(alg) }
func privateParts(alg, seed int) dcode.Private { return someParts(alg, seed).private(alg) }

// publicKey returns a public key: any bytes are one.
func publicKey(alg, seed int) []byte { return someBytes(publicSize(alg), seed) }

// withSmall returns a key with another number i of s1 and s2.
func withSmall(alg int, key []byte, i, n int) []byte {
	key = bytes.Clone(key)
	put(key[128:t0At(alg)], width(alg), i, n)
	return key
}

// clone returns a copy of parts that shares no memory.
func clone(p dcode.Private) dcode.Private {
	return dcode.Private{
		Rho: bytes.Clone(p.Rho), K: bytes.Clone(p.K), Tr: bytes.Clone(p.Tr),
		S1: slices.Clone(p.S1), S2: slices.Clone(p.S2), T0: slices.Clone(p.T0),
	}
}

// same reports whether parts are the same; nil and empty ones are.
func same(a, b dcode.Private) bool {
	return bytes.Equal(a.Rho, b.Rho) && bytes.Equal(a.K, b.K) && bytes.Equal(a.Tr, b.Tr) &&
		slices.Equal(a.S1, b.S1) && slices.Equal(a.S2, b.S2) && slices.Equal(a.T0, b.T0)
}

// publicFault returns the error of a public key, as the chapter defines it.
func publicFault(alg int, key []byte) error {
	if alg < 4 || alg > 6 {
		return api.Fault{Code: api.Unknown}
	}
	if len(key) != publicSize(alg) {
		return api.Fault{Code: api.Length}
	}
	return nil
}

// privateFault returns the error of an expanded private key, as the chapter
// defines it.
func privateFault(alg int, key []byte) error {
	if alg < 4 || alg > 6 {
		return api.Fault{Code: api.Unknown}
	}
	if len(key) != privateSize(alg) {
		return api.Fault{Code: api.Length}
	}
	for i := range smalls(alg) * places {
		if number(key[128:], width(alg), i) > 2*e(alg) {
			return api.Fault{Code: api.Range, At: 128 + i/places*small(alg)}
		}
	}
	return nil
}

// partsOf returns the parts of a right key, as the chapter defines them.
func partsOf(alg int, key []byte) dcode.Private {
	polys := func(at, n, top, d int) []dring.Poly {
		var out []dring.Poly
		for i := range n {
			numbers := make([]int, places)
			for j := range numbers {
				numbers[j] = number(key[at:], d, i*places+j)
			}
			out = append(out, polyOf(top, numbers))
		}
		return out
	}
	return dcode.Private{
		Rho: key[:32], K: key[32:64], Tr: key[64:128],
		S1: polys(128, l(alg), e(alg), width(alg)),
		S2: polys(128+l(alg)*small(alg), k(alg), e(alg), width(alg)),
		T0: polys(t0At(alg), k(alg), 4096, 13),
	}
}

// told checks an error: it is nil, or the api.Fault itself that is wanted, which
// the library and package fault find in it.
func told(t *testing.T, what string, alg int, got, want error) {
	t.Helper()
	if want == nil {
		if got != nil {
			t.Errorf("%s of the algorithm %d: %#v, want nil", what, alg, got)
		}
		return
	}
	f, ok := got.(api.Fault)
	if !ok || f != want.(api.Fault) {
		t.Errorf("%s of the algorithm %d: %#v, want %#v", what, alg, got, want)
		return
	}
	at, ok := fault.At(got)
	if !ok || at != f.At || !errors.Is(got, f.Code) {
		t.Errorf("%s of the algorithm %d: the offset %d, %v of %#v", what, alg, at, ok, got)
	}
}

// judgePublic checks CheckPublic of a key.
func judgePublic(t *testing.T, alg int, key []byte, want error) {
	t.Helper()
	told(t, "CheckPublic", alg, dcode.CheckPublic(alg, key), want)
}

// judgePrivate checks CheckPrivate of a key, and that Split returns the parts, of
// which Join makes the key again, exactly if there is no error.
func judgePrivate(t *testing.T, alg int, key []byte, want error) {
	t.Helper()
	told(t, "CheckPrivate", alg, dcode.CheckPrivate(alg, key), want)
	p, err := dcode.Split(alg, key)
	told(t, "Split", alg, err, want)
	if want != nil {
		if !same(p, dcode.Private{}) {
			t.Errorf("Split of the algorithm %d: parts beside the error %v", alg, err)
		}
		return
	}
	if !same(p, partsOf(alg, key)) {
		t.Errorf("Split of the algorithm %d: %v", alg, p)
	}
	judgeJoin(t, alg, p, key)
}

// judgeJoin checks Join of parts; nothing is wanted where there is no key.
func judgeJoin(t *testing.T, alg int, p dcode.Private, want []byte) {
	t.Helper()
	got, ok := dcode.Join(alg, p)
	if ok != (want != nil) || !bytes.Equal(got, want) {
		t.Errorf("Join of the algorithm %d: %d bytes, %v, want %d bytes", alg, len(got), ok, len(want))
	}
}

// judgePack checks Pack of a polynomial, and that Unpack finds it again.
func judgePack(t *testing.T, f dring.Poly, top, d int, want []byte) {
	t.Helper()
	got, ok := dcode.Pack(f, uint32(top), d)
	if ok != (want != nil) || !bytes.Equal(got, want) {
		t.Errorf("Pack for %d with %d bits of %v: %x, %v, want %x", top, d, f, got, ok, want)
	}
	if want != nil {
		judgeUnpack(t, want, top, d, reduced(f))
	}
}

// judgeUnpack checks Unpack of bytes.
func judgeUnpack(t *testing.T, b []byte, top, d int, want dring.Poly) {
	t.Helper()
	if got, ok := dcode.Unpack(b, uint32(top), d); !ok || got != want {
		t.Errorf("Unpack for %d with %d bits of %x: %v, %v, want %v", top, d, b, got, ok, want)
	}
}

// P18.1

func TestVectors(t *testing.T) {
	for alg := 4; alg <= 6; alg++ {
		if gotK, gotL, gotE, ok := dcode.Vectors(alg); gotK != k(alg) || gotL != l(alg) || gotE != e(alg) || !ok {
			t.Errorf("Vectors(%d): %d, %d, %d, %v", alg, gotK, gotL, gotE, ok)
		}
	}
}

func TestVectorsOfOthers(t *testing.T) {
	none := func(alg int) {
		if gotK, gotL, gotE, ok := dcode.Vectors(alg); gotK != 0 || gotL != 0 || gotE != 0 || ok {
			t.Errorf("Vectors(%d): %d, %d, %d, %v", alg, gotK, gotL, gotE, ok)
		}
	}
	for _, alg := range otherAlgs {
		none(alg)
	}
	for i := range 1000 {
		none(3 - i)
		none(7 + i)
	}
}

// P18.2

func TestKnownPackings(t *testing.T) {
	for _, x := range []struct {
		f      dring.Poly
		top, d int
		head   []byte
	}{
		{dring.Poly{}, 2, 3, []byte{146, 36, 73, 146, 36, 73}},
		{dring.Poly{q - 2}, 2, 3, []byte{148, 36, 73, 146}},
		{dring.Poly{2, 1}, 2, 3, []byte{136, 36, 73, 146}},
		{dring.Poly{q - 5}, 2, 3, []byte{151, 36, 73}},
		{dring.Poly{4, q - 4}, 4, 4, []byte{128, 68, 68}},
		{dring.Poly{q + 1}, 4, 4, []byte{67, 68}},
		{dring.Poly{4096, q - 4095}, 4096, 13, []byte{0, 224, 255, 3, 64, 0, 8}},
		{all(4096), 4096, 13, make([]byte, 416)},
		{all(-4095), 4096, 13, bytes.Repeat([]byte{255}, 416)},
		{all(0), 0, 1, make([]byte, 32)},
		{all(-1), 0, 1, bytes.Repeat([]byte{255}, 32)},
		{all(1), 1, 1, make([]byte, 32)},
		{dring.Poly{1 << 20, 1, 1<<20 - 1}, 1 << 20, 20, nil},
		{with(with(all(1<<20), 1, 1), 2, 1<<20-1), 1 << 20, 20, []byte{0, 0, 240, 255, 255, 1, 0, 0}},
	} {
		b, ok := dcode.Pack(x.f, uint32(x.top), x.d)
		if ok != (x.head != nil) || !bytes.HasPrefix(b, x.head) || ok && len(b) != 32*x.d || !ok && len(b) != 0 {
			t.Errorf("Pack for %d with %d bits: %x, %v", x.top, x.d, b, ok)
		}
		if ok {
			judgeUnpack(t, b, x.top, x.d, reduced(x.f))
		}
	}
	f, ok := dcode.Unpack(bytes.Repeat([]byte{255}, 96), 2, 3)
	if !ok || f != all(-5) {
		t.Errorf("Unpack of 96 bytes 255: %v, %v", f, ok)
	}
}

// tops returns numbers top for d bits, from 0 to 2^20.
func tops(d int) []int {
	l := []int{0, 1, 2, 3, 4, 5, 255, 256, 4095, 4096, 4097, 1<<19 + 1, 1<<20 - 1, 1 << 20}
	return append(l, 1<<d-1, min(1<<20, 1<<d), 1<<d/2, 1<<d/3)
}

func TestPackings(t *testing.T) {
	for d := 1; d <= 20; d++ {
		for i, top := range tops(d) {
			for _, numbers := range [][]int{make([]int, places), slices.Repeat([]int{1<<d - 1}, places), someNumbers(places, 1<<d, i), someNumbers(places, 1<<d, 100+i)} {
				f := polyOf(top, numbers)
				judgePack(t, f, top, d, packed(d, numbers...))
				judgePack(t, raised(f, i), top, d, packed(d, numbers...))
			}
		}
	}
}

// The number at one place is each edge of those of d bits, and just beyond them.
func TestPackingsAtEachPlace(t *testing.T) {
	for d := 1; d <= 20; d++ {
		for _, top := range []int{0, 1<<d - 1, 1 << (d - 1), 1 << 20} {
			f := polyOf(top, someNumbers(places, 1<<d, top))
			for i := range places {
				for _, n := range []int{0, 1, 1<<d - 1} {
					g := with(f, i, coefficient(top-n))
					want, _ := packing(g, top, d)
					judgePack(t, g, top, d, want)
				}
				for _, n := range []int{-1, 1 << d} {
					judgePack(t, with(f, i, coefficient(top-n)), top, d, nil)
				}
			}
		}
	}
}

// coefficients are some at the edges of how they count, and of what a uint32 holds.
func coefficients(top, d int) []uint32 {
	l := []uint32{0, 1, q/2 - 1, q / 2, q/2 + 1, q/2 + 2, q - 2, q - 1, q, q + 1, q + q/2, q + q/2 + 1, 2*q - 1, 2 * q, 511 * q, 512*q - 1, 512 * q, math.MaxUint32 - 1, math.MaxUint32, 1 << 20, 1<<20 + 1, 1 << 22, 1 << 23, 1 << 31}
	for i := -3; i <= 3; i++ {
		l = append(l, coefficient(top+i), coefficient(top+i-1<<d), coefficient(top+i)+q, coefficient(top+i-1<<d)+511*q)
	}
	return l
}

func TestPackingsOfCoefficients(t *testing.T) {
	for d := 1; d <= 20; d++ {
		for _, top := range tops(d) {
			for i, c := range coefficients(top, d) {
				f := with(all(top), (i*7+d)%places, c)
				want, _ := packing(f, top, d)
				judgePack(t, f, top, d, want)
			}
		}
	}
}

// All coefficients that have a number, and many that have none.
func TestPackingsOfEachCoefficient(t *testing.T) {
	for _, x := range []struct{ top, d int }{{2, 3}, {4, 4}, {4096, 13}, {512, 10}} {
		for n := -300; n < 1<<x.d+300; n++ {
			f := with(all(x.top-1), n&255, coefficient(x.top-n))
			want, _ := packing(f, x.top, x.d)
			judgePack(t, f, x.top, x.d, want)
		}
	}
	next := random(1)
	for range 20000 {
		top, d := next(1<<20+1), 1+next(20)
		f := with(all(top), next(places), uint32(next(1<<32)))
		want, _ := packing(f, top, d)
		judgePack(t, f, top, d, want)
	}
}

func TestUnpackOfBytes(t *testing.T) {
	for d := 1; d <= 20; d++ {
		for i, top := range tops(d) {
			b := someBytes(32*d, i+d)
			var numbers []int
			for j := range places {
				numbers = append(numbers, number(b, d, j))
			}
			want := polyOf(top, numbers)
			judgeUnpack(t, b, top, d, want)
			judgePack(t, want, top, d, b)
		}
	}
}

func TestUnpackOfOtherSizes(t *testing.T) {
	none := func(b []byte, top, d int) {
		if f, ok := dcode.Unpack(b, uint32(top), d); ok || f != (dring.Poly{}) {
			t.Errorf("Unpack for %d with %d bits of %d bytes: %v, %v", top, d, len(b), f, ok)
		}
	}
	b := someBytes(32*21, 1)
	for d := 1; d <= 20; d++ {
		none(nil, 2, d)
		none(make([]byte, 1<<20), 2, d)
		for n := range len(b) {
			if n != 32*d {
				none(b[:n], 1<<d-1, d)
				none(make([]byte, n), 0, d)
			}
		}
	}
}

// Nothing is promised of other numbers of bits and tops but that the functions
// return.
func TestOtherBitsAndTops(t *testing.T) {
	for _, d := range []int{math.MinInt, math.MinInt + 3, -1 << 32, -64, -1, 0, 21, 31, 32, 33, 63, 64, 65, 256, 1 << 32, 1<<32 + 3, math.MaxInt} {
		for _, top := range []uint32{0, 2, 1<<20 + 1, q, 1 << 31, math.MaxUint32} {
			for _, f := range []dring.Poly{{}, all(1), all(-1), all((q - 1) / 2), all((q + 1) / 2), with(all(0), 9, math.MaxUint32)} {
				dcode.Pack(f, top, d)
				dcode.Pack(f, top, 3)
			}
			for _, b := range [][]byte{nil, make([]byte, 96), bytes.Repeat([]byte{255}, 32*32)} {
				dcode.Unpack(b, top, d)
				dcode.Unpack(b, top, 32)
			}
		}
	}
}

// P18.3

func TestSizes(t *testing.T) {
	for alg := 4; alg <= 6; alg++ {
		set, _ := params.Get(alg)
		if set.Public != publicSize(alg) || set.Private != privateSize(alg) {
			t.Errorf("the sizes %d and %d of %d differ from those of layer 13", publicSize(alg), privateSize(alg), alg)
		}
	}
}

func TestRightPublicKeys(t *testing.T) {
	for alg := 4; alg <= 6; alg++ {
		for seed := range 20 {
			judgePublic(t, alg, publicKey(alg, seed), nil)
		}
		for x := range 256 {
			judgePublic(t, alg, bytes.Repeat([]byte{byte(x)}, publicSize(alg)), nil)
		}
	}
}

func TestRightPrivateKeys(t *testing.T) {
	for alg := 4; alg <= 6; alg++ {
		for seed := range 30 {
			judgePrivate(t, alg, privateKey(alg, seed), nil)
		}
		// The numbers of s1 and s2 are all the same.
		for n := range 2*e(alg) + 1 {
			key := privateKey(alg, n)
			for i := range smalls(alg) * places {
				put(key[128:], width(alg), i, n)
			}
			judgePrivate(t, alg, key, nil)
		}
	}
}

// Each number of s1 and s2 may be the greatest one, and each other byte any.
func TestOtherRightPrivateKeys(t *testing.T) {
	for alg := 4; alg <= 6; alg++ {
		key := privateKey(alg, 1)
		for i := range smalls(alg) * places {
			told(t, "CheckPrivate", alg, dcode.CheckPrivate(alg, withSmall(alg, key, i, 2*e(alg))), nil)
		}
		for at := range key {
			if at < 128 || at >= t0At(alg) {
				told(t, "CheckPrivate", alg, dcode.CheckPrivate(alg, changed(key, at, 255)), nil)
			}
		}
		for _, x := range []byte{0, 1, 127, 128, 255} {
			head, tail := bytes.Repeat([]byte{x}, 128), bytes.Repeat([]byte{x}, k(alg)*great)
			judgePrivate(t, alg, joined(head, key[128:t0At(alg)], tail), nil)
		}
	}
}

func TestOtherAlgorithms(t *testing.T) {
	want := api.Fault{Code: api.Unknown}
	for _, other := range otherAlgs {
		judgePublic(t, other, nil, want)
		judgePrivate(t, other, nil, want)
		for alg := 4; alg <= 6; alg++ {
			judgePublic(t, other, publicKey(alg, 1), want)
			judgePrivate(t, other, privateKey(alg, 1), want)
			judgeJoin(t, other, privateParts(alg, 1), nil)
		}
		// Keys of the sizes that the other algorithm has.
		if set, ok := params.Get(other); ok {
			judgePublic(t, other, make([]byte, set.Public), want)
			judgePrivate(t, other, make([]byte, set.Private), want)
		}
		judgeJoin(t, other, dcode.Private{}, nil)
	}
	for other := range 1000 {
		if other < 4 || other > 6 {
			judgePublic(t, other, publicKey(4, 1), want)
			judgePrivate(t, other, privateKey(4, 1), want)
			judgePublic(t, -other, publicKey(4, 1), want)
			judgePrivate(t, -other, privateKey(4, 1), want)
		}
	}
}

func TestOtherSizes(t *testing.T) {
	want := api.Fault{Code: api.Length}
	sizes := []int{1 << 20}
	for alg := 1; alg <= 25; alg++ {
		set, _ := params.Get(alg)
		sizes = append(sizes, set.Public, set.Private, set.Seed, set.Signature)
	}
	for n := range 6000 {
		sizes = append(sizes, n)
	}
	b := someBytes(1<<20, 1)
	for alg := 4; alg <= 6; alg++ {
		judgePublic(t, alg, nil, want)
		judgePrivate(t, alg, nil, want)
		for _, n := range sizes {
			if n != publicSize(alg) {
				judgePublic(t, alg, b[:n], want)
			}
			if n != privateSize(alg) {
				judgePrivate(t, alg, b[:n], want)
				judgePrivate(t, alg, make([]byte, n), want)
			}
		}
		judgePrivate(t, alg, joined(privateKey(alg, 1), []byte{0}), want)
		judgePrivate(t, alg, privateKey(alg, 1)[:privateSize(alg)-1], want)
	}
}

func TestKeysOfOtherAlgorithms(t *testing.T) {
	for alg := 4; alg <= 6; alg++ {
		for other := 4; other <= 6; other++ {
			if other != alg {
				judgePublic(t, alg, publicKey(other, 1), api.Fault{Code: api.Length})
				judgePrivate(t, alg, privateKey(other, 1), api.Fault{Code: api.Length})
				judgeJoin(t, alg, privateParts(other, 1), nil)
			}
		}
	}
}

// Each number that is too great, at each place of s1 and s2.
func TestRanges(t *testing.T) {
	for alg := 4; alg <= 6; alg++ {
		key := privateKey(alg, 1)
		for i := range smalls(alg) * places {
			want := api.Fault{Code: api.Range, At: 128 + i/places*small(alg)}
			for n := 2*e(alg) + 1; n < 1<<width(alg); n++ {
				judgePrivate(t, alg, withSmall(alg, key, i, n), want)
			}
		}
	}
}

// Several numbers are too great: the first polynomial is meant.
func TestSeveralRanges(t *testing.T) {
	next := random(1)
	for alg := 4; alg <= 6; alg++ {
		key := privateKey(alg, 1)
		for range 300 {
			i, j := next(smalls(alg)*places), next(smalls(alg)*places)
			want := api.Fault{Code: api.Range, At: 128 + min(i, j)/places*small(alg)}
			judgePrivate(t, alg, withSmall(alg, withSmall(alg, key, i, 1<<width(alg)-1), j, 2*e(alg)+1), want)
		}
		// Every number from the place i on.
		for i := smalls(alg)*places - 1; i >= 0; i-- {
			put(key[128:], width(alg), i, 2*e(alg)+1)
			judgePrivate(t, alg, key, api.Fault{Code: api.Range, At: 128 + i/places*small(alg)})
		}
	}
}

// The first error is meant.
func TestFirstError(t *testing.T) {
	for alg := 4; alg <= 6; alg++ {
		bad := withSmall(alg, privateKey(alg, 1), 300, 1<<width(alg)-1)
		judgePrivate(t, alg, bad, api.Fault{Code: api.Range, At: 128 + small(alg)})
		judgePrivate(t, alg, bad[:len(bad)-1], api.Fault{Code: api.Length})
		judgePrivate(t, alg, joined(bad, []byte{0}), api.Fault{Code: api.Length})
		judgePrivate(t, alg+3, bad, api.Fault{Code: api.Unknown})
		judgePrivate(t, alg-3, bad, api.Fault{Code: api.Unknown})
		judgePrivate(t, alg-4, bad[1:], api.Fault{Code: api.Unknown})
		judgePublic(t, alg+3, bad[:publicSize(alg)-1], api.Fault{Code: api.Unknown})
	}
}

// Keys with a few changes, and bytes that look random, are compared with the
// chapter's definitions.
func TestChangedKeys(t *testing.T) {
	next := random(9)
	for alg := 4; alg <= 6; alg++ {
		for seed := range 300 {
			key := privateKey(alg, seed)
			for range next(3) {
				key[next(len(key))] ^= byte(1 << next(8))
			}
			judgePrivate(t, alg, key, privateFault(alg, key))
		}
		for seed := range 100 {
			key := someBytes(privateSize(alg), seed)
			judgePrivate(t, alg, key, privateFault(alg, key))
			judgePublic(t, alg, key, publicFault(alg, key))
		}
		judgePrivate(t, alg, make([]byte, privateSize(alg)), nil)
	}
}

// P18.4

func TestSplit(t *testing.T) {
	for alg := 4; alg <= 6; alg++ {
		for seed := range 30 {
			p, err := dcode.Split(alg, privateKey(alg, seed))
			if err != nil || !same(p, privateParts(alg, seed)) {
				t.Errorf("Split of the algorithm %d: %v, %v", alg, p, err)
			}
		}
	}
}

func TestJoin(t *testing.T) {
	for alg := 4; alg <= 6; alg++ {
		for seed := range 30 {
			judgeJoin(t, alg, privateParts(alg, seed), privateKey(alg, seed))
		}
	}
}

// Coefficients of parts are taken modulo q.
func TestJoinOfRaisedParts(t *testing.T) {
	for alg := 4; alg <= 6; alg++ {
		for seed := range 10 {
			p := privateParts(alg, seed)
			for _, part := range [][]dring.Poly{p.S1, p.S2, p.T0} {
				for i, f := range part {
					part[i] = raised(f, seed)
				}
			}
			judgeJoin(t, alg, p, privateKey(alg, seed))
		}
	}
}

// byteParts and polyParts return the parts of a private key.
func byteParts(p *dcode.Private) []*[]byte       { return []*[]byte{&p.Rho, &p.K, &p.Tr} }
func polyParts(p *dcode.Private) []*[]dring.Poly { return []*[]dring.Poly{&p.S1, &p.S2, &p.T0} }

func TestJoinOfOtherNumbersOfBytes(t *testing.T) {
	for alg := 4; alg <= 6; alg++ {
		for number, size := range []int{32, 32, 64} {
			for n := range 200 {
				if n != size {
					p := privateParts(alg, 1)
					*byteParts(&p)[number] = someBytes(n, 1)
					judgeJoin(t, alg, p, nil)
				}
			}
		}
		// As many bytes in all as in a key.
		p := privateParts(alg, 1)
		p.Rho, p.K = append(p.Rho, p.K[0]), p.K[1:]
		judgeJoin(t, alg, p, nil)
		p = privateParts(alg, 1)
		p.K, p.Tr = p.Tr, p.K
		judgeJoin(t, alg, p, nil)
	}
}

func TestJoinOfOtherNumbersOfPolynomials(t *testing.T) {
	for alg := 4; alg <= 6; alg++ {
		for number, count := range []int{l(alg), k(alg), k(alg)} {
			for n := range 30 {
				if n != count {
					p := privateParts(alg, 1)
					*polyParts(&p)[number] = make([]dring.Poly, n)
					judgeJoin(t, alg, p, nil)
				}
			}
		}
		// As many polynomials in all as in a key.
		p := privateParts(alg, 1)
		p.S1, p.S2 = append(p.S1, p.S2[0]), p.S2[1:]
		judgeJoin(t, alg, p, nil)
		judgeJoin(t, alg, dcode.Private{}, nil)
	}
}

// judgeWith checks Join of right parts, but for one coefficient, which has the
// number n for a top, and so a packing if that is from 0 to the greatest one.
func judgeWith(t *testing.T, alg int, p dcode.Private, part []dring.Poly, i, n int) {
	t.Helper()
	top, greatest := e(alg), 2*e(alg)
	if &part[0] == &p.T0[0] {
		top, greatest = 4096, 1<<13-1
	}
	f := part[i/places]
	part[i/places] = with(f, i%places, coefficient(top-n))
	key, ok := dcode.Join(alg, p)
	if ok != (n >= 0 && n <= greatest) || ok != (len(key) > 0) {
		t.Errorf("Join of the algorithm %d with the number %d at %d: %d bytes, %v", alg, n, i, len(key), ok)
	}
	if ok {
		if back := partsOf(alg, key); !same(back, p) {
			t.Errorf("Join of the algorithm %d with the number %d at %d: other parts", alg, n, i)
		}
	}
	part[i/places] = f
}

func TestJoinWithEachNumberOfSecrets(t *testing.T) {
	next := random(5)
	for alg := 4; alg <= 6; alg++ {
		p := privateParts(alg, 1)
		for _, part := range [][]dring.Poly{p.S1, p.S2} {
			for j := range part {
				for n := -20; n < 40; n++ {
					judgeWith(t, alg, p, part, j*places+next(places), n)
				}
				for _, n := range []int{-q / 2, 1 - q/2, q/2 - 1, q / 2, -4096, 4096, 1<<20 - 1, 1 << 20} {
					judgeWith(t, alg, p, part, j*places+next(places), n)
				}
			}
		}
	}
}

func TestJoinWithNumbersOfT0(t *testing.T) {
	next := random(6)
	for alg := 4; alg <= 6; alg++ {
		p := privateParts(alg, 1)
		for j := range p.T0 {
			for _, n := range []int{-4096, -8192, -3, -2, -1, 0, 1, 2, 4095, 4096, 4097, 8190, 8191, 8192, 8193, 8194, 12288, 16384, 1 << 20, q / 2, -q / 4} {
				judgeWith(t, alg, p, p.T0, j*places+next(places), n)
			}
		}
	}
}

// A number just beyond the edges, at each place of each polynomial.
func TestJoinWithRanges(t *testing.T) {
	none := func(alg int, p dcode.Private, f *dring.Poly, i, n int) {
		kept := f[i]
		f[i] = coefficient(n)
		if key, ok := dcode.Join(alg, p); ok || len(key) != 0 {
			t.Errorf("Join of the algorithm %d with %d at %d: %d bytes, %v", alg, n, i, len(key), ok)
		}
		f[i] = kept
	}
	for alg := 4; alg <= 6; alg++ {
		p := privateParts(alg, 1)
		for number, part := range [][]dring.Poly{p.S1, p.S2, p.T0} {
			edges := [][2]int{{e(alg) + 1, -e(alg) - 1}, {e(alg) + 1, -e(alg) - 1}, {4097, -4096}}[number]
			for j := range part {
				for i := 0; i < places; i += 5 {
					none(alg, p, &part[j], i, edges[0])
					none(alg, p, &part[j], (i+j)%places, edges[1])
				}
				none(alg, p, &part[j], 255, edges[j%2])
			}
		}
	}
}

// P18.5

func TestSplitInvertsJoin(t *testing.T) {
	for alg := 4; alg <= 6; alg++ {
		for seed := range 40 {
			p := privateParts(alg, seed)
			key, ok := dcode.Join(alg, p)
			back, err := dcode.Split(alg, key)
			if !ok || err != nil || !same(back, p) {
				t.Errorf("Split of Join of the algorithm %d: %v, %v", alg, ok, err)
			}
		}
	}
}

func TestJoinInvertsSplit(t *testing.T) {
	for alg := 4; alg <= 6; alg++ {
		for seed := range 40 {
			key := privateKey(alg, seed)
			p, err := dcode.Split(alg, key)
			back, ok := dcode.Join(alg, p)
			if !ok || err != nil || !bytes.Equal(back, key) {
				t.Errorf("Join of Split of the algorithm %d: %v, %v", alg, ok, err)
			}
		}
	}
}

// Rules 4, 5, 7 and 8

// inside returns a copy of b that has other bytes before it, and after it in its
// capacity, and all of these bytes.
func inside(b []byte) (part, whole []byte) {
	whole = joined([]byte{1, 2, 3}, b, bytes.Repeat([]byte{77}, 500))
	return whole[3 : 3+len(b)], whole
}

// unchanged calls f with b and checks that it is not changed, nor what is around
// it.
func unchanged(t *testing.T, what string, b []byte, f func(b []byte)) {
	t.Helper()
	part, whole := inside(b)
	kept := bytes.Clone(whole)
	f(part)
	if !bytes.Equal(whole, kept) {
		t.Errorf("%s changes its argument", what)
	}
}

func TestArguments(t *testing.T) {
	for alg := 3; alg <= 7; alg++ {
		n := max(4, min(alg, 6))
		key := privateKey(n, 1)
		for _, b := range [][]byte{publicKey(n, 1), key, withSmall(n, key, 5, 7), withSmall(n, key, 1500, 1<<width(n)-1), key[:len(key)-1], nil} {
			unchanged(t, "CheckPublic", b, func(b []byte) { dcode.CheckPublic(alg, b) })
			unchanged(t, "CheckPrivate", b, func(b []byte) { dcode.CheckPrivate(alg, b) })
			unchanged(t, "Split", b, func(b []byte) { dcode.Split(alg, b) })
		}
	}
	for _, b := range [][]byte{someBytes(96, 1), someBytes(95, 1), nil} {
		unchanged(t, "Unpack", b, func(b []byte) { dcode.Unpack(b, 2, 3) })
	}
	for _, f := range []dring.Poly{{}, all(q - 2), raised(all(1), 1), all(5)} {
		kept := f
		dcode.Pack(f, 2, 3)
		if f != kept {
			t.Error("Pack changes its argument")
		}
	}
}

// roomy returns parts that have other bytes and polynomials in their capacity, and
// all of these parts with their capacity.
func roomy(p dcode.Private) (parts, whole dcode.Private) {
	whole = clone(p)
	for _, b := range byteParts(&whole) {
		*b = append(*b, bytes.Repeat([]byte{77}, 500)...)
	}
	for _, l := range polyParts(&whole) {
		*l = append(*l, slices.Repeat([]dring.Poly{all(3)}, 20)...)
	}
	parts = whole
	parts.Rho, parts.K, parts.Tr = whole.Rho[:len(p.Rho)], whole.K[:len(p.K)], whole.Tr[:len(p.Tr)]
	parts.S1, parts.S2, parts.T0 = whole.S1[:len(p.S1)], whole.S2[:len(p.S2)], whole.T0[:len(p.T0)]
	return parts, whole
}

func TestArgumentsOfJoin(t *testing.T) {
	for alg := 3; alg <= 7; alg++ {
		n := max(4, min(alg, 6))
		right, raisedParts, wrong, short := privateParts(n, 1), privateParts(n, 1), privateParts(n, 1), privateParts(n, 1)
		raisedParts.S1[1], raisedParts.T0[2] = raised(raisedParts.S1[1], 1), raised(raisedParts.T0[2], 2)
		wrong.T0[k(n)-1][9] = 5000
		short.T0 = short.T0[1:]
		for _, x := range []dcode.Private{right, raisedParts, wrong, short, {}} {
			p, whole := roomy(x)
			kept := clone(whole)
			dcode.Join(alg, p)
			if !same(whole, kept) {
				t.Errorf("Join of the algorithm %d changes its argument", alg)
			}
		}
	}
}

// What is in the capacity of a key, or of parts, is no part of it.
func TestCapacity(t *testing.T) {
	for alg := 4; alg <= 6; alg++ {
		public, _ := inside(publicKey(alg, 1))
		judgePublic(t, alg, public, nil)
		judgePublic(t, alg, public[:len(public)-1], api.Fault{Code: api.Length})
		key, _ := inside(privateKey(alg, 1))
		judgePrivate(t, alg, key, nil)
		judgePrivate(t, alg, key[:len(key)-1], api.Fault{Code: api.Length})
		p, _ := roomy(privateParts(alg, 1))
		judgeJoin(t, alg, p, privateKey(alg, 1))
		p.Tr = p.Tr[:63]
		judgeJoin(t, alg, p, nil)
	}
}

// overwrite changes all that parts hold, with their capacity.
func overwrite(p dcode.Private) {
	for _, b := range byteParts(&p) {
		whole := (*b)[:cap(*b)]
		for i := range whole {
			whole[i] ^= 255
		}
	}
	for _, l := range polyParts(&p) {
		whole := (*l)[:cap(*l)]
		for i := range whole {
			whole[i] = all(9)
		}
	}
}

// Split returns copies: none shares memory with the key or another result.
func TestSplitReturnsCopies(t *testing.T) {
	for alg := 4; alg <= 6; alg++ {
		key, whole := inside(privateKey(alg, 1))
		kept, want := bytes.Clone(whole), privateParts(alg, 1)
		first, _ := dcode.Split(alg, key)
		second, _ := dcode.Split(alg, key)
		overwrite(first)
		if !bytes.Equal(whole, kept) || !same(second, want) {
			t.Errorf("Split of the algorithm %d shares memory", alg)
		}
		clear(whole)
		if !same(second, want) {
			t.Errorf("Split of the algorithm %d keeps its argument", alg)
		}
	}
}

// No two parts of one result share memory, also not in their capacity.
func TestPartsShareNoMemory(t *testing.T) {
	for alg := 4; alg <= 6; alg++ {
		want := privateParts(alg, 1)
		for number := range 6 {
			p, _ := dcode.Split(alg, privateKey(alg, 1))
			kept, one := clone(want), dcode.Private{}
			if number < 3 {
				*byteParts(&one)[number] = *byteParts(&p)[number]
				*byteParts(&p)[number], *byteParts(&kept)[number] = nil, nil
			} else {
				*polyParts(&one)[number-3] = *polyParts(&p)[number-3]
				*polyParts(&p)[number-3], *polyParts(&kept)[number-3] = nil, nil
			}
			overwrite(one)
			if !same(p, kept) {
				t.Errorf("the part %d of the algorithm %d shares memory with another", number, alg)
			}
		}
	}
}

func TestJoinReturnsCopies(t *testing.T) {
	for alg := 4; alg <= 6; alg++ {
		p, whole := roomy(privateParts(alg, 1))
		kept, want := clone(whole), privateKey(alg, 1)
		first, _ := dcode.Join(alg, p)
		second, _ := dcode.Join(alg, p)
		clear(first[:cap(first)])
		if !same(whole, kept) || !bytes.Equal(second, want) {
			t.Errorf("Join of the algorithm %d shares memory", alg)
		}
		overwrite(p)
		if !bytes.Equal(second, want) {
			t.Errorf("Join of the algorithm %d keeps its argument", alg)
		}
	}
}

func TestPackReturnsCopies(t *testing.T) {
	f := polyOf(4096, someNumbers(places, 1<<13, 1))
	first, _ := dcode.Pack(f, 4096, 13)
	second, _ := dcode.Pack(f, 4096, 13)
	want := bytes.Clone(second)
	clear(first[:cap(first)])
	g, _ := dcode.Unpack(second, 4096, 13)
	if !bytes.Equal(second, want) {
		t.Error("the results of Pack share memory")
	}
	clear(second)
	if g != f {
		t.Error("the result of Unpack is changed")
	}
}

// atOnce calls f in several goroutines that begin at the same time.
func atOnce(f func(number int)) {
	var done sync.WaitGroup
	begin := make(chan struct{})
	for number := range 12 {
		done.Go(func() {
			<-begin
			f(number)
		})
	}
	close(begin)
	done.Wait()
}

// The same keys and parts are used by all goroutines, and others by each of them.
func TestConcurrentCalls(t *testing.T) {
	var keys [7][]byte
	var parts [7]dcode.Private
	for alg := 4; alg <= 6; alg++ {
		keys[alg], parts[alg] = privateKey(alg, 1), privateParts(alg, 1)
	}
	atOnce(func(number int) {
		for i := range 10 {
			alg := 4 + (number+i)%3
			judgePrivate(t, alg, keys[alg], nil)
			judgeJoin(t, alg, parts[alg], keys[alg])
			judgePublic(t, alg, keys[alg][:publicSize(alg)], nil)
			judgePublic(t, number-12, keys[alg], api.Fault{Code: api.Unknown})
			seed := 100*number + i
			own := privateKey(alg, seed)
			judgePrivate(t, alg, own, nil)
			judgeJoin(t, alg, privateParts(alg, seed), own)
			at := (number + i) * 71
			judgePrivate(t, alg, withSmall(alg, own, at, 2*e(alg)+1), api.Fault{Code: api.Range, At: 128 + at/places*small(alg)})
			numbers := someNumbers(places, 1<<13, seed)
			judgePack(t, raised(polyOf(seed, numbers), seed), seed, 13, packed(13, numbers...))
		}
	})
}

// The same calls have the same results, whatever was called in between.
func TestSameResults(t *testing.T) {
	results := func() (l []any) {
		for alg := 3; alg <= 7; alg++ {
			for _, key := range [][]byte{publicKey(4, 1), privateKey(5, 1), withSmall(6, privateKey(6, 1), 900, 7), nil} {
				p, err := dcode.Split(alg, key)
				back, ok := dcode.Join(alg, p)
				l = append(l, dcode.CheckPublic(alg, key), p, err, back, ok)
			}
		}
		return l
	}
	before := results()
	for alg := 4; alg <= 6; alg++ {
		judgePrivate(t, alg, privateKey(alg, 7), nil)
		key := someBytes(privateSize(alg), 7)
		judgePrivate(t, alg, key, privateFault(alg, key))
	}
	if !reflect.DeepEqual(results(), before) {
		t.Error("other results")
	}
}
