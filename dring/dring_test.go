package dring_test

import (
	"flag"
	"math"
	"math/big"
	"os"
	"os/exec"
	"runtime"
	"slices"
	"sync"
	"sync/atomic"
	"testing"

	"pyx/dring"
)

const q = 8380417

// first is the function that TestFirst calls before all others, in a process
// that TestFirstCalls starts.
var first = flag.String("first", "", "the function that TestFirst calls first")

// otherIndices are indices of no root; some are like 0 to 255 in their low bits.
var otherIndices = []int{math.MinInt, math.MinInt + 1, math.MinInt + 255, -1 << 32, -1<<32 + 1, -1<<31 - 1, -1 << 31, -32768, -513, -512, -511, -257, -256, -255, -129, -128, -127, -64, -2, -1, 256, 257, 258, 383, 384, 510, 511, 512, 513, 1 << 16, 1<<31 - 1, 1 << 31, 1 << 32, 1<<32 + 1, 1<<32 + 255, 1 << 62, math.MaxInt - 255, math.MaxInt - 1, math.MaxInt}

// random returns a function that yields numbers which look random, less than
// 2^32.
func random(seed uint64) func() int64 {
	return func() int64 {
		seed = seed*6364136223846793005 + 1442695040888963407
		return int64(seed >> 32)
	}
}

// between returns a polynomial whose coefficients look random and are from low
// to high.
func between(low, high int64, seed int) dring.Poly {
	var f dring.Poly
	next := random(uint64(seed))
	for i := range f {
		f[i] = uint32(low + next()%(high-low+1))
	}
	return f
}

// all returns the polynomial whose coefficients are all c.
func all(c uint32) dring.Poly {
	var f dring.Poly
	for i := range f {
		f[i] = c
	}
	return f
}

// only returns the polynomial c*X^i.
func only(i int, c uint32) dring.Poly {
	return with(dring.Poly{}, i, c)
}

// with returns f with the coefficient c of X^i.
func with(f dring.Poly, i int, c uint32) dring.Poly {
	f[i] = c
	return f
}

// values are coefficients at the edges of the range of those of results and of
// all.
var values = []uint32{0, 1, 2, 1753, q/2 - 1, q / 2, q/2 + 1, q - 2, q - 1, q, q + 1, 2*q - 1, 2 * q, 2*q + 1, 1 << 23, 1<<31 - 1, 1 << 31, 512*q - 1, 512 * q, math.MaxUint32 - 1, math.MaxUint32}

// polys returns polynomials of equal coefficients, with one coefficient at each
// place, and many that look random.
func polys() []dring.Poly {
	var l []dring.Poly
	for _, c := range values {
		l = append(l, all(c))
	}
	for i := range 256 {
		l = append(l, only(i, 1), only(i, q-1), only(i, math.MaxUint32), with(all(q), i, 1))
	}
	for seed := range 40 {
		l = append(l, between(0, q-1, seed), between(0, math.MaxUint32, seed), between(q, math.MaxUint32, seed), between(0, 1, seed), between(q-1, q, seed))
	}
	return l
}

// pairs calls f with many pairs of polynomials, and with numbers of them.
func pairs(f func(i int, a, b dring.Poly)) {
	l := polys()
	next := random(7)
	for i, a := range l {
		f(i, a, a)
		f(i, a, l[next()%int64(len(l))])
		f(i, l[next()%int64(len(l))], a)
	}
	f(len(l), dring.Poly{}, l[0])
	f(len(l), l[0], dring.Poly{})
}

// modulo returns n modulo q.
func modulo(n int64) int64 {
	return new(big.Int).Mod(big.NewInt(n), big.NewInt(q)).Int64()
}

// reduced returns f with its coefficients modulo q.
func reduced(f dring.Poly) dring.Poly {
	for i, c := range f {
		f[i] = c % q
	}
	return f
}

// power returns z to the power of n, modulo q.
func power(z int64, n int) int64 {
	p := int64(1)
	for range n {
		p = p * z % q
	}
	return p
}

// root returns the root i as the chapter defines it.
func root(i int) int64 {
	r := 0
	for bit := range 8 {
		if i&(1<<bit) != 0 {
			r += 1 << (7 - bit)
		}
	}
	return power(1753, 2*r+1)
}

// roots returns all roots as the chapter defines them.
func roots() [256]int64 {
	var l [256]int64
	for i := range l {
		l[i] = root(i)
	}
	return l
}

// value returns the value of f at z.
func value(f dring.Poly, z int64) int64 {
	sum := int64(0)
	for i := 255; i >= 0; i-- {
		sum = (sum*z + int64(f[i])) % q
	}
	return sum
}

// transform returns the transform of f as the chapter defines it, with all roots.
func transform(f dring.Poly, all [256]int64) dring.Poly {
	var out dring.Poly
	for i, z := range all {
		out[i] = uint32(value(f, z))
	}
	return out
}

// inverseRoots returns the numbers whose products with the roots are 1. As the
// root to the power of 256 is -1, that is the negative root to the power of 255.
func inverseRoots() [256]int64 {
	var l [256]int64
	for i := range l {
		l[i] = q - power(root(i), 255)
	}
	return l
}

// back returns the polynomial whose transform is g. As the sum of the same power
// of all roots is 0 but for powers of 256, its coefficient of X^t is the sum of
// all g[i], each divided by the root i to the power of t, divided by 256.
func back(g dring.Poly, inverses [256]int64) dring.Poly {
	var sums [256]int64
	for i, inverse := range inverses {
		factor := int64(8347681) // 256 times that is 1 modulo q
		for t := range sums {
			sums[t] += factor * int64(g[i]) % q
			factor = factor * inverse % q
		}
	}
	var f dring.Poly
	for i, sum := range sums {
		f[i] = uint32(sum % q)
	}
	return f
}

// cyclic returns the remainder of the product of a and b after the division by
// X^256 + 1.
func cyclic(a, b dring.Poly) dring.Poly {
	var c [511]int64
	a, b = reduced(a), reduced(b)
	for i := range a {
		for j := range b {
			c[i+j] += int64(a[i]) * int64(b[j]) % q
		}
	}
	for d := 510; d >= 256; d-- {
		c[d-256] -= c[d]
	}
	var out dring.Poly
	for i := range out {
		out[i] = uint32((c[i]%q + q) % q)
	}
	return out
}

// same checks a result, and that its coefficients are less than q.
func same(t *testing.T, name string, number int, got, want dring.Poly) {
	t.Helper()
	for i, c := range got {
		if c != want[i] || c >= q {
			t.Errorf("%s of the polynomial %d: the coefficient %d is %d, want %d", name, number, i, c, want[i])
			return
		}
	}
}

// P17.1

func TestRoots(t *testing.T) {
	for i, want := range roots() {
		if got, ok := dring.Root(i); int64(got) != want || !ok {
			t.Errorf("Root(%d): %d, %v, want %d", i, got, ok, want)
		}
	}
}

// The first of the two is an example of the chapter; 4808194 is 1753 to the power
// of 128, the first number of FIPS 204, appendix B.
func TestKnownRoots(t *testing.T) {
	for i, want := range map[int]int64{0: 1753, 1: -1753, 2: 1753 * 4808194, 3: -1753 * 4808194} {
		if got, ok := dring.Root(i); int64(got) != modulo(want) || !ok {
			t.Errorf("Root(%d): %d, %v, want %d", i, got, ok, modulo(want))
		}
	}
}

// The roots are 256 different numbers whose power of 256 is -1, which make
// X^256 + 1 the product of all X - z.
func TestRootsDiffer(t *testing.T) {
	seen := map[uint32]int{}
	for i := range 256 {
		z, _ := dring.Root(i)
		if j, ok := seen[z]; ok {
			t.Errorf("Root(%d) and Root(%d) are %d", j, i, z)
		}
		seen[z] = i
		if power(int64(z), 256) != q-1 {
			t.Errorf("Root(%d): %d is no root", i, z)
		}
	}
}

// The powers that are kept are those that products of 1753 make, in each call.
func TestPowers(t *testing.T) {
	for range 3 {
		want := int64(1)
		for n, got := range dring.Powers() {
			if int64(got) != want {
				t.Errorf("Powers: %d at %d, want %d", got, n, want)
			}
			want = want * 1753 % q
		}
	}
}

// The roots are the powers with an odd exponent.
func TestPowersAndRoots(t *testing.T) {
	powers := dring.Powers()
	var odd, all []uint32
	for i := range 256 {
		z, _ := dring.Root(i)
		all, odd = append(all, z), append(odd, powers[2*i+1])
	}
	slices.Sort(all)
	slices.Sort(odd)
	if !slices.Equal(all, odd) {
		t.Errorf("the roots are %d, and the odd powers %d", all, odd)
	}
}

func TestNoRoots(t *testing.T) {
	noRoot := func(i int) {
		if got, ok := dring.Root(i); got != 0 || ok {
			t.Errorf("Root(%d): %d, %v", i, got, ok)
		}
	}
	for _, i := range otherIndices {
		noRoot(i)
	}
	for i := 1; i <= 10000; i++ {
		noRoot(-i)
		noRoot(255 + i)
	}
}

// reduces checks Reduce of a number.
func reduces(t *testing.T, n int64) {
	t.Helper()
	if got := dring.Reduce(n); int64(got) != modulo(n) {
		t.Errorf("Reduce(%d): %d, want %d", n, got, modulo(n))
	}
}

func TestReduce(t *testing.T) {
	for n, want := range map[int64]uint32{0: 0, q - 1: q - 1, q: 0, q + 1: 1, 1 - q: 1, -q: 0, -q - 1: q - 1, 1: 1, -1: q - 1, 2*q - 1: q - 1, 2 * q: 0, -2 * q: 0} {
		if got := dring.Reduce(n); got != want {
			t.Errorf("Reduce(%d): %d, want %d", n, got, want)
		}
	}
	// Counted, without any division.
	want := uint32(0)
	for n := int64(-2 * q); n <= 2*q; n++ {
		if got := dring.Reduce(n); got != want {
			t.Fatalf("Reduce(%d): %d, want %d", n, got, want)
		}
		want++
		if want == q {
			want = 0
		}
	}
}

func TestReduceOfGreatNumbers(t *testing.T) {
	for i := range int64(2000) {
		for _, n := range []int64{math.MinInt64 + i, math.MaxInt64 - i, math.MinInt64/q*q + i, math.MaxInt64/q*q - i, 1000*q*i - 1, 1000 * q * i, 1000*q*i + 1} {
			reduces(t, n)
		}
	}
	for bit := range 63 {
		for i := int64(-2); i <= 2; i++ {
			reduces(t, 1<<bit+i)
			reduces(t, -1<<bit+i)
		}
	}
	next := random(1)
	for range 10000 {
		n := next()<<32 | next()
		reduces(t, n)
		multiple := n / q * q
		reduces(t, multiple)
		if dring.Reduce(multiple) != 0 {
			t.Errorf("Reduce(%d) is not 0", multiple)
		}
		if n > math.MinInt64 {
			reduces(t, -n)
		}
	}
}

// size returns the size of a coefficient.
func size(c uint32) uint32 {
	r := c % q
	if r > q-r {
		return q - r
	}
	return r
}

// norm checks Norm of a polynomial.
func norm(t *testing.T, f dring.Poly) {
	t.Helper()
	want := uint32(0)
	for _, c := range f {
		if s := size(c); s > want {
			want = s
		}
	}
	if got := dring.Norm(f); got != want {
		t.Errorf("Norm(%d): %d, want %d", f, got, want)
	}
}

func TestKnownNorms(t *testing.T) {
	for i, x := range []struct {
		f    dring.Poly
		want uint32
	}{
		{with(all(1), 9, q-2), 2}, {dring.Poly{}, 0}, {all(q), 0}, {all(1), 1}, {all(q - 1), 1}, {all(q + 3), 3}, {all(512 * q), 0},
		{only(1, q/2), q / 2}, {only(1, q/2+1), q / 2}, {only(1, q/2-1), q/2 - 1}, {only(1, q/2+2), q/2 - 1}, {only(1, q+q/2+1), q / 2},
		{dring.Poly{3, q - 4}, 4}, {dring.Poly{4, q - 3}, 4}, {dring.Poly{q - 5, q - 4}, 5}, {dring.Poly{2*q - 5, 4}, 5},
	} {
		if got := dring.Norm(x.f); got != x.want {
			t.Errorf("Norm of the polynomial %d: %d, want %d", i, got, x.want)
		}
	}
}

func TestNormsAtEachPlace(t *testing.T) {
	for i := range 256 {
		for _, f := range []dring.Poly{{}, all(5), all(q - 5), between(0, 100, i), between(0, math.MaxUint32, i)} {
			for _, c := range values {
				norm(t, with(f, i, c))
				norm(t, with(with(f, i, c), (i+100)%256, q-c))
			}
		}
	}
	for _, f := range polys() {
		norm(t, f)
	}
}

// Each coefficient has the size of its negative, which is the smaller distance to
// a multiple of q.
func TestNormsOfCoefficients(t *testing.T) {
	for n := uint32(0); n <= q/2; n += 97 {
		for _, c := range []uint32{n, q - n, q + n, 511*q - n, 511*q + n} {
			if got := dring.Norm(only(int(n%256), c)); got != n {
				t.Errorf("Norm with the coefficient %d: %d, want %d", c, got, n)
			}
		}
	}
}

// P17.2

func TestSums(t *testing.T) {
	pairs(func(i int, a, b dring.Poly) {
		var sum, difference, product dring.Poly
		for j := range a {
			c, d := int64(a[j]%q), int64(b[j]%q)
			sum[j], difference[j], product[j] = uint32((c+d)%q), uint32((q+c-d)%q), uint32(c*d%q)
		}
		same(t, "Add", i, dring.Add(a, b), sum)
		same(t, "Sub", i, dring.Sub(a, b), difference)
		same(t, "Mul", i, dring.Mul(a, b), product)
	})
}

// Each coefficient belongs to the one of the same place only.
func TestSumsOfEachPlace(t *testing.T) {
	for i := range 256 {
		for _, c := range values {
			for _, d := range values {
				sum, difference := modulo(int64(c)+int64(d)), modulo(int64(c)-int64(d))
				product := int64(uint64(c) * uint64(d) % q)
				same(t, "Add", i, dring.Add(only(i, c), only(i, d)), only(i, uint32(sum)))
				same(t, "Sub", i, dring.Sub(only(i, c), only(i, d)), only(i, uint32(difference)))
				same(t, "Mul", i, dring.Mul(only(i, c), only(i, d)), only(i, uint32(product)))
			}
			same(t, "Mul", i, dring.Mul(only(i, c), with(all(q-1), i, 0)), dring.Poly{})
		}
	}
}

func TestTransforms(t *testing.T) {
	all := roots()
	for i, f := range polys() {
		same(t, "NTT", i, dring.NTT(f), transform(f, all))
	}
}

func TestKnownTransforms(t *testing.T) {
	var x, square dring.Poly
	for i, z := range roots() {
		x[i], square[i] = uint32(z), uint32(z*z%q)
	}
	for i, pair := range [][2]dring.Poly{
		{{}, {}}, {{1}, all(1)}, {{q - 1}, all(q - 1)}, {{0, 1}, x}, {{0, 0, 1}, square}, {{5, 1}, dring.Add(all(5), x)},
	} {
		same(t, "NTT", i, dring.NTT(pair[0]), pair[1])
		same(t, "Inverse", i, dring.Inverse(pair[1]), pair[0])
	}
}

func TestInverses(t *testing.T) {
	inverses, all := inverseRoots(), roots()
	for i, f := range polys() {
		got := dring.Inverse(f)
		same(t, "Inverse", i, got, back(f, inverses))
		same(t, "the transform of Inverse", i, transform(got, all), reduced(f))
	}
}

// Coefficients are taken modulo q: those that are not less give the same results.
func TestCoefficientsModulo(t *testing.T) {
	pairs(func(i int, a, b dring.Poly) {
		c, d := reduced(a), reduced(b)
		same(t, "Add", i, dring.Add(a, b), dring.Add(c, d))
		same(t, "Sub", i, dring.Sub(a, b), dring.Sub(c, d))
		same(t, "Mul", i, dring.Mul(a, b), dring.Mul(c, d))
		same(t, "NTT", i, dring.NTT(a), dring.NTT(c))
		same(t, "Inverse", i, dring.Inverse(a), dring.Inverse(c))
		if dring.Norm(a) != dring.Norm(c) {
			t.Errorf("Norm of the polynomial %d: %d, want %d", i, dring.Norm(a), dring.Norm(c))
		}
	})
}

// P17.3

// A polynomial is found again, modulo q.
func TestInverseOfTransform(t *testing.T) {
	for i, f := range polys() {
		same(t, "Inverse of NTT", i, dring.Inverse(dring.NTT(f)), reduced(f))
		same(t, "NTT of Inverse", i, dring.NTT(dring.Inverse(f)), reduced(f))
	}
}

func TestProductsOfPolynomials(t *testing.T) {
	pairs(func(i int, a, b dring.Poly) {
		got, want := dring.Mul(dring.NTT(a), dring.NTT(b)), cyclic(a, b)
		same(t, "Mul of NTT", i, got, dring.NTT(want))
		same(t, "Inverse of Mul of NTT", i, dring.Inverse(got), want)
	})
}

// X^256 is -1: so X^i times X^j is X^(i+j), or -X^(i+j-256).
func TestProductsOfPowers(t *testing.T) {
	var powers [512]dring.Poly
	z := roots()
	for i := range 256 {
		powers[i], powers[256+i] = transform(only(i, 1), z), transform(only(i, q-1), z)
	}
	for i := range 256 {
		f := dring.NTT(only(i, 1))
		for j := range 256 {
			same(t, "Mul of NTT", i, dring.Mul(f, powers[j]), powers[i+j])
		}
	}
	got := dring.Inverse(dring.Mul(dring.NTT(only(255, 1)), dring.NTT(only(1, 1))))
	same(t, "Inverse of Mul of NTT", 255, got, dring.Poly{q - 1})
}

// Rules 5, 7 and 8

// What is given is not changed, also if it is given twice.
func TestArguments(t *testing.T) {
	pairs(func(i int, a, b dring.Poly) {
		keptA, keptB := a, b
		dring.Norm(a)
		dring.Add(a, b)
		dring.Add(a, a)
		dring.Sub(a, b)
		dring.Sub(b, b)
		dring.NTT(a)
		dring.Inverse(a)
		dring.Mul(a, b)
		dring.Mul(b, b)
		if a != keptA || b != keptB {
			t.Errorf("the polynomial %d is changed", i)
		}
	})
}

// What was returned is the caller's: a change of it changes nothing else.
func TestChangedResults(t *testing.T) {
	f, g := between(0, math.MaxUint32, 1), between(0, math.MaxUint32, 2)
	results := func() [5]dring.Poly {
		return [5]dring.Poly{dring.Add(f, g), dring.Sub(f, g), dring.NTT(f), dring.Inverse(f), dring.Mul(f, g)}
	}
	before, again := results(), results()
	for i := range again {
		again[i] = dring.Poly{}
	}
	powers := dring.Powers()
	for n := range powers {
		powers[n] = 0
	}
	if results() != before {
		t.Error("other results")
	}
	TestPowers(t)
	TestRoots(t)
}

// atOnce calls f in several goroutines that begin at the same time: each of them
// waits until all are running, which a channel would tell one after another.
func atOnce(f func(number int)) {
	var all sync.WaitGroup
	var running atomic.Int32
	goroutines := min(16, 2*runtime.GOMAXPROCS(0))
	for number := range goroutines {
		all.Go(func() {
			running.Add(1)
			for int(running.Load()) < goroutines {
				runtime.Gosched()
			}
			f(number)
		})
	}
	all.Wait()
}

// calls has a check of each function, with an argument of its own for a number.
func calls() map[string]func(t *testing.T, number int) {
	return map[string]func(*testing.T, int){
		"Powers": func(t *testing.T, _ int) { TestPowers(t) },
		"Root": func(t *testing.T, number int) {
			for i := range 256 {
				if got, ok := dring.Root((number + i) % 256); int64(got) != root((number+i)%256) || !ok {
					t.Errorf("Root(%d): %d, %v", (number+i)%256, got, ok)
				}
			}
		},
		"NTT": func(t *testing.T, number int) {
			f := between(0, math.MaxUint32, number)
			same(t, "NTT", number, dring.NTT(f), transform(f, roots()))
		},
		"Inverse": func(t *testing.T, number int) {
			f := between(0, math.MaxUint32, number)
			same(t, "Inverse", number, dring.Inverse(f), back(f, inverseRoots()))
		},
		"sums": func(t *testing.T, number int) {
			f := between(0, math.MaxUint32, number)
			same(t, "Sub", number, dring.Sub(dring.Add(f, f), f), reduced(f))
			same(t, "Mul", number, dring.Mul(f, all(2)), dring.Add(f, f))
			norm(t, f)
			reduces(t, int64(number)-8)
		},
	}
}

// The first calls of a process are those of several goroutines, with each of the
// functions as the very first one, and with all of them.
func TestFirstCalls(t *testing.T) {
	program, err := os.Executable()
	if err != nil {
		t.Fatal(err)
	}
	for _, name := range []string{"Powers", "Root", "NTT", "Inverse", "sums", "all"} {
		for range 5 {
			if out, err := exec.Command(program, "-test.run=^TestFirst$", "-first="+name).CombinedOutput(); err != nil {
				t.Errorf("%s first: %v\n%s", name, err, out)
			}
		}
	}
}

// TestFirst is a part of TestFirstCalls and does nothing without the flag.
func TestFirst(t *testing.T) {
	if *first == "" {
		return
	}
	if call := calls()[*first]; call != nil {
		atOnce(func(number int) { call(t, number) })
	}
	callAll(t)
}

// callAll calls each of the functions in some goroutines.
func callAll(t *testing.T) {
	names := []string{"Powers", "Root", "NTT", "Inverse", "sums"}
	atOnce(func(number int) { calls()[names[number%len(names)]](t, number) })
}

func TestConcurrentCalls(t *testing.T) {
	for range 5 {
		callAll(t)
	}
	atOnce(func(number int) {
		for i := range 3 {
			for _, call := range calls() {
				call(t, 10*number+i)
			}
		}
	})
}
