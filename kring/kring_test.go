package kring_test

import (
	"flag"
	"math"
	"math/big"
	"os"
	"os/exec"
	"runtime"
	"slices"
	"sync"
	"sync/atomic"
	"testing"

	"pyx/kring"
)

const q = 3329

// first is the function that TestFirst calls before all others, in a process
// that TestFirstCalls starts.
var first = flag.String("first", "", "the function that TestFirst calls first")

// otherIndices are indices of no root; some are like 0 to 127 in their low bits.
var otherIndices = []int{math.MinInt, math.MinInt + 1, math.MinInt + 127, -1 << 32, -1<<32 + 1, -1<<31 - 1, -1 << 31, -32768, -257, -256, -255, -129, -128, -127, -64, -2, -1, 128, 129, 130, 191, 192, 254, 255, 256, 257, 383, 384, 1 << 16, 1<<31 - 1, 1 << 31, 1 << 32, 1<<32 + 1, 1<<32 + 127, 1 << 62, math.MaxInt - 127, math.MaxInt - 1, math.MaxInt}

// random returns a function that yields numbers which look random, less than
// 2^32.
func random(seed uint64) func() int64 {
	return func() int64 {
		seed = seed*6364136223846793005 + 1442695040888963407
		return int64(seed >> 32)
	}
}

// between returns a polynomial whose coefficients look random and are from low
// to high.
func between(low, high int64, seed int) kring.Poly {
	var f kring.Poly
	next := random(uint64(seed))
	for i := range f {
		f[i] = uint16(low + next()%(high-low+1))
	}
	return f
}

// all returns the polynomial whose coefficients are all c.
func all(c uint16) kring.Poly {
	var f kring.Poly
	for i := range f {
		f[i] = c
	}
	return f
}

// only returns the polynomial c*X^i.
func only(i int, c uint16) kring.Poly {
	return with(kring.Poly{}, i, c)
}

// with returns f with the coefficient c of X^i.
func with(f kring.Poly, i int, c uint16) kring.Poly {
	f[i] = c
	return f
}

// values are coefficients at the edges of the range of valid ones and of all.
var values = []uint16{0, 1, 2, 17, q/2 - 1, q / 2, q/2 + 1, q - 2, q - 1, q, q + 1, 2*q - 1, 2 * q, 2*q + 1, 1 << 15, 19*q - 1, 19 * q, 65534, 65535}

// polys returns polynomials of equal coefficients, with one coefficient at each
// place, and many that look random; valid ones and others.
func polys() []kring.Poly {
	var l []kring.Poly
	for _, c := range values {
		l = append(l, all(c))
	}
	for i := range 256 {
		l = append(l, only(i, 1), only(i, q-1), only(i, uint16(q+i)), only(i, 65535), with(all(q-1), i, 0), with(all(q), i, 1))
	}
	for seed := range 200 {
		l = append(l, between(0, q-1, seed), between(0, 65535, seed), between(q, 65535, seed), between(0, 1, seed), between(q-1, q, seed))
	}
	return l
}

// pairs calls f with many pairs of polynomials, and with numbers of them.
func pairs(f func(i int, a, b kring.Poly)) {
	l := polys()
	next := random(7)
	for i, a := range l {
		f(i, a, a)
		f(i, a, kring.Poly{})
		f(i, kring.Poly{}, a)
		for range 3 {
			f(i, a, l[next()%int64(len(l))])
		}
	}
}

// modulo returns n modulo q.
func modulo(n int64) int64 {
	return new(big.Int).Mod(big.NewInt(n), big.NewInt(q)).Int64()
}

// reduced returns f with its coefficients modulo q.
func reduced(f kring.Poly) kring.Poly {
	for i, c := range f {
		f[i] = c % q
	}
	return f
}

// root returns the root i as the chapter defines it.
func root(i int) int64 {
	r := 0
	for bit := range 7 {
		if i&(1<<bit) != 0 {
			r += 1 << (6 - bit)
		}
	}
	z := int64(1)
	for range 2*r + 1 {
		z = z * 17 % q
	}
	return z
}

// remainder returns the two coefficients of the remainder of f after the
// division by X^2 - z: each multiple c*X^d of it that is taken away adds z*c to
// the coefficient of X^(d-2).
func remainder(f kring.Poly, z int64) (int64, int64) {
	var c [256]int64
	for i := range f {
		c[i] = int64(f[i])
	}
	for d := 255; d >= 2; d-- {
		c[d-2] = (c[d-2] + z*(c[d]%q)) % q
	}
	return c[0] % q, c[1] % q
}

// transform returns the transform of f as the chapter defines it.
func transform(f kring.Poly) kring.Poly {
	var out kring.Poly
	for i := range 128 {
		low, high := remainder(f, root(i))
		out[2*i], out[2*i+1] = uint16(low), uint16(high)
	}
	return out
}

// power returns z to the power of n, modulo q.
func power(z int64, n int) int64 {
	p := int64(1)
	for range n {
		p = p * z % q
	}
	return p
}

// inverseRoots returns the numbers whose products with the roots are 1.
func inverseRoots() [128]int64 {
	var l [128]int64
	for i := range l {
		l[i] = power(root(i), q-2)
	}
	return l
}

// back returns the polynomial whose transform is g. As the sum of the same power
// of all roots is 0 but for powers of 128, its coefficient of X^(2*t) is the sum
// of all g[2*i], each divided by the root i to the power of t, divided by 128; so
// for those of X^(2*t+1) and g[2*i+1].
func back(g kring.Poly, inverses [128]int64) kring.Poly {
	var sums [256]int64
	scale := power(128, q-2)
	for i, inverse := range inverses {
		factor := scale
		for t := range 128 {
			sums[2*t] += factor * int64(g[2*i]) % q
			sums[2*t+1] += factor * int64(g[2*i+1]) % q
			factor = factor * inverse % q
		}
	}
	var f kring.Poly
	for i, sum := range sums {
		f[i] = uint16(sum % q)
	}
	return f
}

// product returns the product in the transform as the chapter defines it, with
// all roots.
func product(a, b kring.Poly, all [128]int64) kring.Poly {
	var out kring.Poly
	for i, z := range all {
		a0, a1 := int64(a[2*i]), int64(a[2*i+1])
		b0, b1 := int64(b[2*i]), int64(b[2*i+1])
		out[2*i] = uint16((a0*b0%q + z*(a1*b1%q)%q) % q)
		out[2*i+1] = uint16((a0*b1%q + a1*b0%q) % q)
	}
	return out
}

// roots returns all roots as the chapter defines them.
func roots() [128]int64 {
	var l [128]int64
	for i := range l {
		l[i] = root(i)
	}
	return l
}

// cyclic returns the remainder of the product of a and b after the division by
// X^256 + 1.
func cyclic(a, b kring.Poly) kring.Poly {
	var c [511]int64
	for i := range a {
		for j := range b {
			c[i+j] += int64(a[i]) * int64(b[j]) % q
		}
	}
	for d := 510; d >= 256; d-- {
		c[d-256] -= c[d]
	}
	var out kring.Poly
	for i := range out {
		out[i] = uint16((c[i]%q + q) % q)
	}
	return out
}

// same checks a result, and that its coefficients are less than q.
func same(t *testing.T, name string, number int, got, want kring.Poly) {
	t.Helper()
	for i, c := range got {
		if c != want[i] || c >= q {
			t.Errorf("%s of the polynomial %d: the coefficient %d is %d, want %d", name, number, i, c, want[i])
			return
		}
	}
}

// P14.1

func TestRoots(t *testing.T) {
	for i := range 128 {
		if got, ok := kring.Root(i); int64(got) != root(i) || !ok {
			t.Errorf("Root(%d): %d, %v, want %d", i, got, ok, root(i))
		}
	}
}

// The first roots are those of FIPS 203, appendix A.
func TestKnownRoots(t *testing.T) {
	for i, want := range []int64{17, -17, 2761, -2761, 583, -583, 2649, -2649, 1637, -1637, 723, -723, 2288, -2288, 1100, -1100} {
		if got, ok := kring.Root(i); int64(got) != modulo(want) || !ok {
			t.Errorf("Root(%d): %d, %v, want %d", i, got, ok, modulo(want))
		}
	}
}

// The roots are 128 different numbers whose power of 128 is -1, which make
// X^256 + 1 the product of all X^2 - z.
func TestRootsDiffer(t *testing.T) {
	seen := map[uint16]int{}
	for i := range 128 {
		z, _ := kring.Root(i)
		if j, ok := seen[z]; ok {
			t.Errorf("Root(%d) and Root(%d) are %d", j, i, z)
		}
		seen[z] = i
		if power(int64(z), 128) != q-1 {
			t.Errorf("Root(%d): %d is no root", i, z)
		}
	}
}

// The powers that are kept are those that products of 17 make, in each call.
func TestPowers(t *testing.T) {
	for range 3 {
		for n, got := range kring.Powers() {
			if int64(got) != power(17, n) {
				t.Errorf("Powers: %d at %d, want %d", got, n, power(17, n))
			}
		}
	}
}

// The roots are the powers with an odd exponent.
func TestPowersAndRoots(t *testing.T) {
	powers := kring.Powers()
	var odd, all []uint16
	for i := range 128 {
		z, _ := kring.Root(i)
		all, odd = append(all, z), append(odd, powers[2*i+1])
	}
	slices.Sort(all)
	slices.Sort(odd)
	if !slices.Equal(all, odd) {
		t.Errorf("the roots are %d, and the odd powers %d", all, odd)
	}
}

func TestNoRoots(t *testing.T) {
	noRoot := func(i int) {
		if got, ok := kring.Root(i); got != 0 || ok {
			t.Errorf("Root(%d): %d, %v", i, got, ok)
		}
	}
	for _, i := range otherIndices {
		noRoot(i)
	}
	for i := 1; i <= 10000; i++ {
		noRoot(-i)
		noRoot(127 + i)
	}
}

// reduces checks Reduce of a number.
func reduces(t *testing.T, n int64) {
	t.Helper()
	if got := kring.Reduce(n); int64(got) != modulo(n) {
		t.Errorf("Reduce(%d): %d, want %d", n, got, modulo(n))
	}
}

func TestReduce(t *testing.T) {
	for n, want := range map[int64]uint16{0: 0, q - 1: q - 1, q: 0, q + 1: 1, 1 - q: 1, -q: 0, -q - 1: q - 1, 1: 1, -1: q - 1, 2*q - 1: q - 1, 2 * q: 0, -2 * q: 0} {
		if got := kring.Reduce(n); got != want {
			t.Errorf("Reduce(%d): %d, want %d", n, got, want)
		}
	}
	// Counted, without any division.
	want := uint16(0)
	for n := int64(-3000 * q); n <= 3000*q; n++ {
		if got := kring.Reduce(n); got != want {
			t.Fatalf("Reduce(%d): %d, want %d", n, got, want)
		}
		want++
		if want == q {
			want = 0
		}
	}
}

func TestReduceOfGreatNumbers(t *testing.T) {
	for i := range int64(2 * q) {
		reduces(t, math.MinInt64+i)
		reduces(t, math.MaxInt64-i)
	}
	for bit := range 63 {
		for i := int64(-2); i <= 2; i++ {
			reduces(t, 1<<bit+i)
			reduces(t, -1<<bit+i)
		}
	}
	next := random(1)
	for range 10000 {
		n := next()<<32 | next()
		reduces(t, n)
		multiple := n / q * q
		reduces(t, multiple)
		if kring.Reduce(multiple) != 0 {
			t.Errorf("Reduce(%d) is not 0", multiple)
		}
		if n > math.MinInt64 {
			reduces(t, -n)
		}
	}
}

// valid checks Valid of a polynomial.
func valid(t *testing.T, f kring.Poly, want bool) {
	t.Helper()
	if got := kring.Valid(f); got != want {
		t.Errorf("Valid(%d): %v", f, got)
	}
}

func TestValidAtEachPlace(t *testing.T) {
	for i := range 256 {
		for _, f := range []kring.Poly{{}, all(q - 1), between(0, q-1, i)} {
			for _, c := range values {
				valid(t, with(f, i, c), c < q)
			}
			valid(t, with(with(f, i, q), (i+100)%256, 65535), false)
		}
	}
}

func TestValidOfEachCoefficient(t *testing.T) {
	for c := range 1 << 16 {
		for _, i := range []int{0, 1, 128, 254, 255} {
			valid(t, only(i, uint16(c)), c < q)
		}
		valid(t, all(uint16(c)), c < q)
	}
}

func TestValidOfMany(t *testing.T) {
	for _, f := range polys() {
		valid(t, f, reduced(f) == f)
		valid(t, reduced(f), true)
	}
}

// P14.2

func TestSums(t *testing.T) {
	pairs(func(i int, a, b kring.Poly) {
		var sum, difference kring.Poly
		for j := range a {
			sum[j] = uint16((int64(a[j]) + int64(b[j])) % q)
			difference[j] = uint16((20*q + int64(a[j]) - int64(b[j])) % q)
		}
		same(t, "Add", i, kring.Add(a, b), sum)
		same(t, "Sub", i, kring.Sub(a, b), difference)
	})
}

// Each coefficient belongs to the one of the same place only.
func TestSumsOfEachPlace(t *testing.T) {
	for i := range 256 {
		for _, c := range values {
			for _, d := range values {
				sum, difference := modulo(int64(c)+int64(d)), modulo(int64(c)-int64(d))
				same(t, "Add", i, kring.Add(only(i, c), only(i, d)), only(i, uint16(sum)))
				same(t, "Sub", i, kring.Sub(only(i, c), only(i, d)), only(i, uint16(difference)))
			}
		}
	}
}

func TestTransforms(t *testing.T) {
	for i, f := range polys() {
		same(t, "NTT", i, kring.NTT(f), transform(f))
	}
}

func TestKnownTransforms(t *testing.T) {
	var one, x, square kring.Poly
	for i := range 128 {
		one[2*i], x[2*i+1], square[2*i] = 1, 1, uint16(root(i))
	}
	same(t, "NTT", 0, kring.NTT(kring.Poly{1}), one)
	same(t, "NTT", 1, kring.NTT(kring.Poly{0, 1}), x)
	same(t, "NTT", 2, kring.NTT(kring.Poly{0, 0, 1}), square)
	same(t, "NTT", 3, kring.NTT(kring.Poly{}), kring.Poly{})
	same(t, "Inverse", 0, kring.Inverse(one), kring.Poly{1})
	same(t, "Inverse", 1, kring.Inverse(x), kring.Poly{0, 1})
	same(t, "Inverse", 2, kring.Inverse(square), kring.Poly{0, 0, 1})
	same(t, "Inverse", 3, kring.Inverse(kring.Poly{}), kring.Poly{})
}

func TestInverses(t *testing.T) {
	inverses := inverseRoots()
	for i, f := range polys() {
		got := kring.Inverse(f)
		same(t, "Inverse", i, got, back(f, inverses))
		same(t, "the transform of Inverse", i, transform(got), reduced(f))
	}
}

func TestProducts(t *testing.T) {
	all := roots()
	pairs(func(i int, a, b kring.Poly) {
		same(t, "Mul", i, kring.Mul(a, b), product(a, b, all))
	})
}

// Each coefficient is multiplied by the two of its pair only.
func TestProductsOfEachPlace(t *testing.T) {
	all := roots()
	for i := range 256 {
		for j := range 256 {
			a, b := only(i, uint16(q-1-j)), only(j, uint16(65535-i))
			same(t, "Mul", i, kring.Mul(a, b), product(a, b, all))
		}
		for _, c := range values {
			for _, d := range values {
				a, b := only(i, c), only(i^1, d)
				same(t, "Mul", i, kring.Mul(a, a), product(a, a, all))
				same(t, "Mul", i, kring.Mul(a, b), product(a, b, all))
			}
		}
	}
}

// Coefficients are taken modulo q: those that are not less give the same results.
func TestCoefficientsModulo(t *testing.T) {
	pairs(func(i int, a, b kring.Poly) {
		c, d := reduced(a), reduced(b)
		same(t, "Add", i, kring.Add(a, b), kring.Add(c, d))
		same(t, "Sub", i, kring.Sub(a, b), kring.Sub(c, d))
		same(t, "Mul", i, kring.Mul(a, b), kring.Mul(c, d))
		same(t, "NTT", i, kring.NTT(a), kring.NTT(c))
		same(t, "Inverse", i, kring.Inverse(a), kring.Inverse(c))
	})
}

func TestResultsAreValid(t *testing.T) {
	pairs(func(i int, a, b kring.Poly) {
		for name, f := range map[string]kring.Poly{"Add": kring.Add(a, b), "Sub": kring.Sub(a, b), "NTT": kring.NTT(a), "Inverse": kring.Inverse(a), "Mul": kring.Mul(a, b)} {
			if !kring.Valid(f) {
				t.Errorf("%s of the polynomial %d is not valid", name, i)
			}
		}
	})
}

// P14.3

// A valid polynomial is found again, and another one modulo q.
func TestInverseOfTransform(t *testing.T) {
	for i, f := range polys() {
		same(t, "Inverse of NTT", i, kring.Inverse(kring.NTT(f)), reduced(f))
		same(t, "NTT of Inverse", i, kring.NTT(kring.Inverse(f)), reduced(f))
	}
}

func TestProductsOfPolynomials(t *testing.T) {
	pairs(func(i int, a, b kring.Poly) {
		got, want := kring.Mul(kring.NTT(a), kring.NTT(b)), cyclic(a, b)
		same(t, "Mul of NTT", i, got, kring.NTT(want))
		same(t, "Inverse of Mul of NTT", i, kring.Inverse(got), want)
	})
}

// X^256 is -1: so X^i times X^j is X^(i+j), or -X^(i+j-256).
func TestProductsOfPowers(t *testing.T) {
	var powers [512]kring.Poly
	for i := range 256 {
		powers[i], powers[256+i] = transform(only(i, 1)), transform(only(i, q-1))
	}
	for i := range 256 {
		f := kring.NTT(only(i, 1))
		for j := range 256 {
			same(t, "Mul of NTT", i, kring.Mul(f, kring.NTT(only(j, 1))), powers[i+j])
		}
	}
	got := kring.Inverse(kring.Mul(kring.NTT(only(255, 1)), kring.NTT(only(1, 1))))
	same(t, "Inverse of Mul of NTT", 255, got, kring.Poly{q - 1})
}

// Rules 5, 7 and 8

// What is given is not changed, also if it is given twice.
func TestArguments(t *testing.T) {
	pairs(func(i int, a, b kring.Poly) {
		keptA, keptB := a, b
		kring.Valid(a)
		kring.Add(a, b)
		kring.Add(a, a)
		kring.Sub(a, b)
		kring.Sub(b, b)
		kring.NTT(a)
		kring.Inverse(a)
		kring.Mul(a, b)
		kring.Mul(b, b)
		if a != keptA || b != keptB {
			t.Errorf("the polynomial %d is changed", i)
		}
	})
}

// What was returned is the caller's: a change of it changes nothing else.
func TestChangedResults(t *testing.T) {
	f, g := between(0, 65535, 1), between(0, 65535, 2)
	results := func() [5]kring.Poly {
		return [5]kring.Poly{kring.Add(f, g), kring.Sub(f, g), kring.NTT(f), kring.Inverse(f), kring.Mul(f, g)}
	}
	before, again := results(), results()
	for i := range again {
		again[i] = kring.Poly{}
	}
	powers := kring.Powers()
	for n := range powers {
		powers[n] = 0
	}
	if results() != before {
		t.Error("other results")
	}
	TestPowers(t)
	TestRoots(t)
}

// atOnce calls f in several goroutines that begin at the same time: each of them
// waits until all are running, which a channel would tell one after another.
func atOnce(f func(number int)) {
	var all sync.WaitGroup
	var running atomic.Int32
	goroutines := min(16, 2*runtime.GOMAXPROCS(0))
	for number := range goroutines {
		all.Go(func() {
			running.Add(1)
			for int(running.Load()) < goroutines {
				runtime.Gosched()
			}
			f(number)
		})
	}
	all.Wait()
}

// calls has a check of each function, with an argument of its own for a number.
func calls() map[string]func(t *testing.T, number int) {
	return map[string]func(*testing.T, int){
		"Powers": func(t *testing.T, _ int) { TestPowers(t) },
		"Root": func(t *testing.T, number int) {
			for i := range 128 {
				if got, ok := kring.Root((number + i) % 128); int64(got) != root((number+i)%128) || !ok {
					t.Errorf("Root(%d): %d, %v", (number+i)%128, got, ok)
				}
			}
		},
		"NTT": func(t *testing.T, number int) {
			f := between(0, 65535, number)
			same(t, "NTT", number, kring.NTT(f), transform(f))
		},
		"Inverse": func(t *testing.T, number int) {
			f := between(0, 65535, number)
			same(t, "Inverse", number, kring.Inverse(f), back(f, inverseRoots()))
		},
		"Mul": func(t *testing.T, number int) {
			a, b := between(0, 65535, number), between(0, 65535, number+1)
			same(t, "Mul", number, kring.Mul(a, b), product(a, b, roots()))
		},
		"sums": func(t *testing.T, number int) {
			f := between(0, 65535, number)
			same(t, "Sub", number, kring.Sub(kring.Add(f, f), f), reduced(f))
			valid(t, with(f, number%256, q), false)
			reduces(t, int64(number)-8)
		},
	}
}

// The first calls of a process are those of several goroutines, with each of the
// functions as the very first one, and with all of them.
func TestFirstCalls(t *testing.T) {
	program, err := os.Executable()
	if err != nil {
		t.Fatal(err)
	}
	for _, name := range []string{"Powers", "Root", "NTT", "Inverse", "Mul", "sums", "all"} {
		for range 10 {
			if out, err := exec.Command(program, "-test.run=^TestFirst$", "-first="+name).CombinedOutput(); err != nil {
				t.Errorf("%s first: %v\n%s", name, err, out)
			}
		}
	}
}

// TestFirst is a part of TestFirstCalls and does nothing without the flag.
func TestFirst(t *testing.T) {
	if *first == "" {
		return
	}
	if call := calls()[*first]; call != nil {
		atOnce(func(number int) { call(t, number) })
	}
	callAll(t)
}

// callAll calls each of the functions in some goroutines.
func callAll(t *testing.T) {
	names := []string{"Powers", "Root", "NTT", "Inverse", "Mul", "sums"}
	atOnce(func(number int) { calls()[names[number%len(names)]](t, number) })
}

func TestConcurrentCalls(t *testing.T) {
	for range 5 {
		callAll(t)
	}
	atOnce(func(number int) {
		for i := range 10 {
			for _, call := range calls() {
				call(t, 10*number+i)
			}
		}
	})
}
