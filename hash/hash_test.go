package hash_test

import (
	"bytes"
	"encoding/hex"
	"math"
	"slices"
	"sync"
	"testing"

	"pyx/hash"
	"pyx/keccak"
)

// most is the greatest length of parts and outputs.
const most = 1 << 21

// function is one of the four, with its row of the chapter's table. call returns
// n bytes, or all of them if the length of the output is fixed.
type function struct {
	name   string
	rate   int
	suffix byte
	call   func(n int, parts ...[]byte) []byte
}

func functions() []function {
	return []function{
		{"SHA256", 136, 6, func(_ int, parts ...[]byte) []byte {
			out := hash.SHA256(parts...)
			return out[:]
		}},
		{"SHA512", 72, 6, func(_ int, parts ...[]byte) []byte {
			out := hash.SHA512(parts...)
			return out[:]
		}},
		{"Shake128", 168, 31, hash.Shake128},
		{"Shake256", 136, 31, hash.Shake256},
	}
}

// named returns the function with this name.
func named(name string) function {
	l := functions()
	return l[slices.IndexFunc(l, func(f function) bool { return f.name == name })]
}

// kind is one of the two kinds of streams, with the function of its output.
type kind struct {
	rate  int
	begin func(parts ...[]byte) *hash.Stream
	shake func(n int, parts ...[]byte) []byte
}

func kinds() []kind {
	return []kind{{168, hash.New128, hash.Shake128}, {136, hash.New256, hash.Shake256}}
}

// pattern returns n bytes that do not repeat soon.
func pattern(n int) []byte {
	b := make([]byte, n)
	for i := range b {
		b[i] = byte(i*167 + i/256)
	}
	return b
}

// some returns numbers from 0 to limit - 1 that look random.
func some(seed uint64) func(limit int) int {
	return func(limit int) int {
		seed = seed*6364136223846793005 + 1442695040888963407
		return int(seed >> 33 % uint64(limit))
	}
}

// output returns the first n bytes of an output, as the chapter defines it.
func output(rate int, suffix byte, n int, b []byte) []byte {
	b = append(bytes.Clone(b), suffix)
	for len(b)%rate != 0 {
		b = append(b, 0)
	}
	b[len(b)-1] ^= 128
	var state [200]byte
	for block := range slices.Chunk(b, rate) {
		for i, c := range block {
			state[i] ^= c
		}
		state = keccak.Bytes(keccak.Permute(keccak.From(state)))
	}
	var out []byte
	for len(out) < n {
		out = append(out, state[:rate]...)
		state = keccak.Bytes(keccak.Permute(keccak.From(state)))
	}
	return out[:n]
}

// around returns lengths from 0 on, and those just below, at and just above
// multiples of the rate.
func around(rate int) []int {
	l := []int{0, 1, 2, 3, 7, 8, 9}
	for i := 1; i <= 4; i++ {
		l = append(l, i*rate-2, i*rate-1, i*rate, i*rate+1, i*rate+2)
	}
	return l
}

// same checks an output.
func same(t *testing.T, what string, n int, got, want []byte) {
	t.Helper()
	if !bytes.Equal(got, want) {
		t.Errorf("%s, %d: %x, want %x", what, n, got, want)
	}
}

// digest returns SHA3-256 of bytes in hexadecimal, which the known outputs
// check first.
func digest(b []byte) string {
	sum := hash.SHA256(b)
	return hex.EncodeToString(sum[:])
}

// P7.1 and P7.2

func TestKnownOutputs(t *testing.T) {
	for _, x := range []struct {
		name string
		text string
		want string
	}{
		{"SHA256", "", "a7ffc6f8bf1ed76651c14756a061d662f580ff4de43b49fa82d80a4b80f8434a"},
		{"SHA512", "", "a69f73cca23a9ac5c8b567dc185a756e97c982164fe25859e0d1dcc1475c80a615b2123af1f5f94c11e3e9402c3ac558f500199d95b6d3e301758586281dcd26"},
		{"Shake128", "", "7f9c2ba4e88f827d616045507605853ed73b8093f6efbc88eb1a6eacfa66ef26"},
		{"Shake256", "", "46b9dd2b0ba88d13233b3feb743eeb243fcd52ea62b81b82b50c27646ed5762fd75dc4ddd8c0f200cb05019d67b592f6fc821c49479ab48640292eacb3b7c4be"},
		{"SHA256", "abc", "3a985da74fe225b2045c172d6bd390bd855f086e3e9d525b46bfe24511431532"},
		{"SHA512", "abc", "b751850b1a57168a5693cd924b6b096e08f621827444f70d884f5d0240d2712e10e116e9192af3c91a7ec57647e3934057340b4cf408d5a56592f8274eec53f0"},
		{"Shake128", "abc", "5881092dd818bf5cf8a3ddb793fbcba74097d5c526a6d35f97b83351940f2cc8"},
		{"Shake256", "abc", "483366601360a8771c6863080cc4114d8db44530f8f1e1ee4f94ea37e78b5739d5a15bef186a5386c75744c0527e1faa9f8726e462a12a4feb06bd8801e751e4"},
	} {
		got := named(x.name).call(len(x.want)/2, []byte(x.text))
		if hex.EncodeToString(got) != x.want {
			t.Errorf("%s of %q: %x, want %s", x.name, x.text, got, x.want)
		}
	}
}

// The first 32 bytes of known outputs for the first bytes of the pattern, of
// lengths around one, two and three times the rate. The suffix byte is the last
// one of a block if a byte is missing to a multiple.
func TestKnownOutputsAroundBlocks(t *testing.T) {
	for _, x := range []struct {
		name   string
		length int
		want   string
	}{
		{"SHA256", 1, "5d53469f20fef4f8eab52b88044ede69c77a6a68a60728609fc4a65ff531e7d0"},
		{"SHA256", 134, "87bdc372df6ee44a2500a9c8302ea818fad0cfd08fb3b0f259477782ce2dbdba"},
		{"SHA256", 135, "2691f2478b8ba0cf13f2145ca8d543c8f6910f9622dca45e0cf7bf09f951eb94"},
		{"SHA256", 136, "25339acedfc6d1117a89e41a3840704529231ab9dab2156cdeffb51e8bbe6d35"},
		{"SHA256", 137, "478334d68e946d364fd2ad0ce1a6b92e7b02da5d1f9f5b6b42718003f3594832"},
		{"SHA256", 271, "17610cbe92cd2cb4acfccd82c048e65a275ba08abfcc435d37e44197567afd79"},
		{"SHA256", 272, "435078c8eb7260f55d72d93fceae1ac603481a3b8bc84d12263006db699a91b7"},
		{"SHA256", 273, "117b8b26339a1e09e86cd2a249685a55ef94e6395c14f814b8b411c1e8a63ff3"},
		{"SHA256", 407, "ffabc60d26af11bec1c707a63dca6887ff777f55f0270fa226a2f1d6ef4ae39d"},
		{"SHA256", 408, "964efabf8e4374df218838f445a0f1b685ebbb1a4bd351a7ecf969b7f6795a69"},
		{"SHA256", 409, "a37ee2956a223e50d0fc34807a6edc8d129cbd97bf22a77f74db27ec4ea8f362"},
		{"SHA512", 1, "7127aab211f82a18d06cf7578ff49d5089017944139aa60d8bee057811a15fb5"},
		{"SHA512", 70, "9525ad16b244e77b62885f43a31ad1734b130526a99770224d7d71439ae5701f"},
		{"SHA512", 71, "9967feb0a93b18c81b002cf1d57265408d2dfb33b5fa63821b19daadfab653ac"},
		{"SHA512", 72, "6b5ca723167b9511db99a3c74f9070943829d07456e25849d3290cb1bb53d42b"},
		{"SHA512", 73, "e97077ebe1d110bf6e38a77e97ec9fc720a50ca06871a53a4dcdc83aacbc68df"},
		{"SHA512", 143, "fcdf47e14f97f8058449d54186121e6126b5014d862ea43d8d6b4c2d9cb9deb8"},
		{"SHA512", 144, "57f3e983996746931c40946147e5b409f63a67dff1d8be5c2f62efddea2291b5"},
		{"SHA512", 145, "d2ae490c103f68aa1d4a0bbcc4fd14277ec645f15ff8b0dd482af5feae2312ef"},
		{"SHA512", 215, "51fa38206312bd192ffc0344eca1c59b454bf4f2aa9556273ca74ac3b6526099"},
		{"SHA512", 216, "973ca9ea62162db938cdfc7566742f1f34e6c2ca233345b476a89ac86e8beaf8"},
		{"SHA512", 217, "f82b206477a8b33fdcd170c5e9e475276f8d3d15261f9d9b520fd670fd179ece"},
		{"Shake128", 1, "0b784469a0628e03861cd8a196dfafa0e9e8056d04cddcc49f0746b9ad43ccb2"},
		{"Shake128", 166, "0ec52ecdf5d89113331545208e17f9e10c3844bc6ac0fa783e6cb44571d27269"},
		{"Shake128", 167, "2b5fe48f7a42a0778ce428c07e72970a8cbd5fe179c38b6c87216f5198550d49"},
		{"Shake128", 168, "4e89415c8f5d87659d4cff09f312220856af5f80ba49d91bbfeb63f96eb32245"},
		{"Shake128", 169, "f2f32b362b012c1a77dbf64636402f0afe42119bb363752c94cee4ab443fe79a"},
		{"Shake128", 335, "642c941ac2d4bd455efe077b31e86752385cdc178df6a3ecfa015325bbbb5198"},
		{"Shake128", 336, "b7d0484456dfd1a081b406963adebc4f8b0fdbcc8b90c2d32c96bf9593b77abd"},
		{"Shake128", 337, "5b2cb91132b8f5279744fbd90544303b665a736ee5b0a23a5c429d9531c548e6"},
		{"Shake128", 503, "25f5284e08d968d118023e6afc9b547089f08306b0481e98eed3de66125ebd08"},
		{"Shake128", 504, "b4da2ccb2c1a7357fdedcfcbc7544adedace6fc84673ad44ecf87aa38070c7ae"},
		{"Shake128", 505, "03e4b2d6033316f2ea54b91fc5cb2bae45aef3158e22e3af4dbfb9d9a726b080"},
		{"Shake256", 1, "b8d01df855f7075882c636f6ddeacf41e5de0bbf30042ef0a86e36f4b8600d54"},
		{"Shake256", 134, "38d59631115f1fd5763e64458d7908c904123744b8bab25e7063a33bd558a3a3"},
		{"Shake256", 135, "4e5bcd269f05a3c2cf18ec008c9cd1cb4794faca4fd2277ccfb63d0708da4d10"},
		{"Shake256", 136, "a54572d1ae1496107d2700672a52aabb940fd82d50dfc1567c76f14e30fcc815"},
		{"Shake256", 137, "1ea9de3629fecc6f659db3e2236365ef9bbeb37349286830b41db15bfaf9f78c"},
		{"Shake256", 271, "99a1fd753978f2db6d862e7b6f264a24805e3a2112af1c97b4d58ad1196951bc"},
		{"Shake256", 272, "962eeb19133b83b9bf024d2f2f18228c3e059e374d5d07622de6b01b9d032594"},
		{"Shake256", 273, "edd8711614d8871cb43769b9be3445dbfa2bcba8e428f22837dd2790edbdfd23"},
		{"Shake256", 407, "3acab0b3478b57155d4d6e91aef4b7b7e67076dc6e1e2c9946edbb34774d4d1d"},
		{"Shake256", 408, "19d0162e197a85dddafaf3b7f49a04e6706c421d04f750f85e0e783731f4edbc"},
		{"Shake256", 409, "069726c1ed344924667df68d7df36799d60deb36210f58c76f1a143a1aa03dc9"},
	} {
		got := named(x.name).call(32, pattern(x.length))
		if hex.EncodeToString(got[:32]) != x.want {
			t.Errorf("%s of %d bytes: %x, want %s", x.name, x.length, got, x.want)
		}
	}
}

// The digest of the outputs for each length from 0 to 599, which are known.
func TestKnownOutputsOfAllLengths(t *testing.T) {
	for name, want := range map[string]string{
		"SHA256":   "bbc9265c01f3ff3f108a0d524a87bf198c052b21c9d57708addca0f3fe0858e3",
		"SHA512":   "f2ac5b727ad592270fa1c82eeb619c1aea261e961b1c1fb77cdb6b479b3f53b9",
		"Shake128": "2b847a1d40f2cabfe83abb1add7bda899deb34fd62e0c24b93476c20c41dae5b",
		"Shake256": "f5314b9180c65e9e31da6791e060116b8a11289e7057e3d941630ff1fdff098b",
	} {
		var all []byte
		for length := range 600 {
			all = append(all, named(name).call(32, pattern(length))...)
		}
		if got := digest(all); got != want {
			t.Errorf("%s: the digest of all outputs is %s, want %s", name, got, want)
		}
	}
}

// The longest parts, in one and in many.
func TestMostBytes(t *testing.T) {
	b := pattern(most)
	for name, want := range map[string]string{
		"SHA256":   "1ae653ce46b5457d254b34848c9ef62eca9da177e5c20b7f69b4e3654720e3e1",
		"SHA512":   "a264c00463686765e90b14213e3ce25d695101f241809c3186c5e5d7e8307c7717f000a6e831afcb22cbf16b68ec3e7b0543b721764433d0d61fadc6e451825f",
		"Shake128": "d4e952ca1d7a9f128483eb2dcf1113e26a628b67cc3ca05e7a98f7cd2c55669d",
		"Shake256": "1e809be5dee7269ec9bea44e38732ff8ce589c39929fe6e1dd089af97ce72d1b",
	} {
		if got := hex.EncodeToString(named(name).call(32, b)); got != want {
			t.Errorf("%s of %d bytes: %s, want %s", name, most, got, want)
		}
		parts := slices.Collect(slices.Chunk(b, 1000))
		if got := hex.EncodeToString(named(name).call(32, parts...)); got != want {
			t.Errorf("%s of %d parts: %s, want %s", name, len(parts), got, want)
		}
	}
}

func TestOutputsAsDefined(t *testing.T) {
	for _, f := range functions() {
		number := some(1)
		for _, length := range around(f.rate) {
			for range 5 {
				b := make([]byte, length)
				for i := range b {
					b[i] = byte(number(256))
				}
				got := f.call(100, b)
				same(t, f.name, length, got, output(f.rate, f.suffix, len(got), b))
			}
		}
	}
}

// Bytes of zeros and ones, and such that look like the suffix or the end.
func TestOutputsOfEqualBytes(t *testing.T) {
	for _, f := range functions() {
		for _, c := range []byte{0, 1, 6, 31, 128, 134, 159, 255} {
			for _, length := range around(f.rate) {
				b := bytes.Repeat([]byte{c}, length)
				got := f.call(50, b)
				same(t, f.name, length, got, output(f.rate, f.suffix, len(got), b))
			}
		}
	}
}

func TestNoBytes(t *testing.T) {
	for _, f := range functions() {
		want := output(f.rate, f.suffix, len(f.call(40)), nil)
		for i, parts := range [][][]byte{nil, {}, {nil}, {{}}, {nil, {}, nil}, make([][]byte, 1000)} {
			same(t, f.name+" of no bytes", i, f.call(40, parts...), want)
		}
		if bytes.Equal(f.call(40, []byte{0}), want) || bytes.Equal(f.call(40, []byte{f.suffix}), want) {
			t.Errorf("%s: a byte changes nothing", f.name)
		}
	}
}

func TestLengthsOfOutputs(t *testing.T) {
	for _, k := range kinds() {
		for _, b := range [][]byte{nil, pattern(1), pattern(k.rate - 1), pattern(k.rate), pattern(500)} {
			for _, n := range around(k.rate) {
				same(t, "the output", n, k.shake(n, b), output(k.rate, 31, n, b))
			}
		}
	}
}

func TestEachLengthOfOutputs(t *testing.T) {
	for _, k := range kinds() {
		b := pattern(k.rate)
		all := output(k.rate, 31, 700, b)
		for n := range all {
			same(t, "the output", n, k.shake(n, b), all[:n])
		}
	}
}

func TestKnownLongOutputs(t *testing.T) {
	for _, x := range []struct {
		name        string
		short, long string
	}{
		{"Shake128", "67e2258ceb12a022909c09831c15e5905788f9a5480b1d1756417ca93dd5adf4", "ff071a501d40c4f0ba19ae802c0e3e132336717628a0b50323e58d950fcc9fa2"},
		{"Shake256", "c252771539d647531a545f9e10463b390dfc6cde25f15fff8fa60cad3bf84d8d", "eaf79be99f52363f7b6720e2ca1a3185ef2f8cbd6ae87b6b67370a385cfe5be7"},
	} {
		if got := digest(named(x.name).call(3000)); got != x.short {
			t.Errorf("%s: 3000 bytes have the digest %s, want %s", x.name, got, x.short)
		}
		if got := digest(named(x.name).call(most, pattern(100))); got != x.long {
			t.Errorf("%s: %d bytes have the digest %s, want %s", x.name, most, got, x.long)
		}
	}
}

func TestNoOutput(t *testing.T) {
	for _, k := range kinds() {
		for _, n := range []int{0, -1, -2, -31, -136, -168, -most, -1 << 31, -1 << 32, math.MinInt + 1, math.MinInt} {
			for _, parts := range [][][]byte{nil, {nil}, {pattern(200)}, {{1}, {2}}} {
				if got := k.shake(n, parts...); len(got) != 0 {
					t.Errorf("Shake of %d bytes: %x", n, got)
				}
			}
		}
	}
}

// P1: no panic, and no memory that there is not.
func TestTooLongOutput(t *testing.T) {
	for _, k := range kinds() {
		s := k.begin([]byte{1})
		for _, n := range []int{most + 1, 1 << 31, 1 << 40, 1 << 62, math.MaxInt} {
			if got := k.shake(n, []byte{1}); len(got) != 0 {
				t.Errorf("Shake of %d bytes: %d", n, len(got))
			}
			if got := s.Next(n); len(got) != 0 || s.Blocks() != 0 {
				t.Errorf("Next(%d): %d, and Blocks %d", n, len(got), s.Blocks())
			}
		}
		same(t, "the output", 9, s.Next(9), output(k.rate, 31, 9, []byte{1}))
	}
}

// The same bytes have different outputs for each of the functions.
func TestDifferentFunctions(t *testing.T) {
	for length := range 300 {
		seen := map[string]string{}
		for _, f := range functions() {
			out := string(f.call(32, pattern(length))[:32])
			if seen[out] != "" {
				t.Errorf("%d bytes: %s is %s", length, f.name, seen[out])
			}
			seen[out] = f.name
		}
	}
}

// A change of any bit changes the output.
func TestEachBitCounts(t *testing.T) {
	for _, f := range functions() {
		b := pattern(f.rate + 1)
		seen := map[string]bool{string(f.call(32, b)): true}
		for i := range 8 * len(b) {
			b[i/8] ^= 1 << (i % 8)
			out := string(f.call(32, b))
			b[i/8] ^= 1 << (i % 8)
			if seen[out] {
				t.Errorf("%s: the bit %d changes nothing", f.name, i)
			}
			seen[out] = true
		}
	}
}

// P7.3

// blocks returns how many permutations the first n bytes of an output need.
func blocks(rate, n int) int {
	begun := 0
	for i := range n {
		if i%rate == 0 {
			begun++
		}
	}
	return max(begun-1, 0)
}

// read reads a stream by these numbers of bytes, and checks what it returns and
// Blocks each time.
func read(t *testing.T, k kind, s *hash.Stream, all []byte, numbers ...int) {
	t.Helper()
	at := 0
	for i, n := range numbers {
		end := at + max(n, 0)
		if got := s.Next(n); !bytes.Equal(got, all[at:end]) {
			t.Errorf("Next(%d), the call %d: %x, want %x", n, i, got, all[at:end])
			return
		}
		at = end
		if got, want := s.Blocks(), blocks(k.rate, at); got != want {
			t.Errorf("Blocks after %d bytes, the call %d: %d, want %d", at, i, got, want)
			return
		}
	}
}

func TestStreamInOneCall(t *testing.T) {
	for _, k := range kinds() {
		for _, b := range [][]byte{nil, pattern(1), pattern(k.rate - 1), pattern(k.rate), pattern(k.rate + 1), pattern(1000)} {
			for _, n := range around(k.rate) {
				all := output(k.rate, 31, n, b)
				read(t, k, k.begin(b), all, n)
				same(t, "the output", n, k.shake(n, b), all)
			}
		}
	}
}

func TestStreamByBytes(t *testing.T) {
	for _, k := range kinds() {
		all := output(k.rate, 31, 5*k.rate, pattern(200))
		read(t, k, k.begin(pattern(200)), all, slices.Repeat([]int{1}, len(all))...)
	}
}

// With zeros and negative numbers in between, which change nothing.
func TestStreamByAndWithoutBytes(t *testing.T) {
	for _, k := range kinds() {
		all := output(k.rate, 31, 5*k.rate, nil)
		read(t, k, k.begin(), all, slices.Repeat([]int{0, -1, 1, math.MinInt, 0, -k.rate}, len(all))...)
		read(t, k, k.begin(), all, -1, 0, k.rate, 0, -1, 1, -1, 0, k.rate-1, 0, -5, 2*k.rate, -most, 0, 1, -1)
	}
}

func TestStreamByEqualNumbers(t *testing.T) {
	for _, k := range kinds() {
		all := output(k.rate, 31, 20*k.rate, pattern(77))
		for _, n := range []int{2, 3, 8, 64, k.rate - 1, k.rate, k.rate + 1, 2*k.rate - 1, 2 * k.rate, 2*k.rate + 1, 5 * k.rate} {
			read(t, k, k.begin(pattern(77)), all, slices.Repeat([]int{n}, len(all)/n)...)
		}
	}
}

func TestStreamByManyNumbers(t *testing.T) {
	for _, k := range kinds() {
		number := some(2)
		for range 200 {
			b := pattern(number(3 * k.rate))
			var numbers []int
			sum := 0
			for range 1 + number(20) {
				n := number(k.rate+20) - 10
				numbers = append(numbers, n)
				sum += max(n, 0)
			}
			read(t, k, k.begin(b), output(k.rate, 31, sum, b), numbers...)
		}
	}
}

// A stream is read in two calls, of all lengths.
func TestStreamInTwoCalls(t *testing.T) {
	for _, k := range kinds() {
		all := output(k.rate, 31, 2*k.rate+2, pattern(10))
		for n := range len(all) + 1 {
			read(t, k, k.begin(pattern(10)), all, n, len(all)-n)
		}
	}
}

func TestBlocks(t *testing.T) {
	for _, k := range kinds() {
		for _, b := range [][]byte{nil, pattern(k.rate - 1), pattern(k.rate), pattern(10 * k.rate)} {
			s := k.begin(b)
			for _, x := range []struct{ n, want int }{
				{0, 0}, {-1, 0}, {1, 0}, {k.rate - 2, 0}, {1, 0}, {0, 0}, {-1, 0}, // the first block ends
				{1, 1}, {0, 1}, {k.rate - 1, 1}, {0, 1}, // the second one
				{1, 2}, {k.rate - 1, 2}, {k.rate, 3}, {k.rate + 1, 5}, {k.rate - 1, 5}, {3 * k.rate, 8}, {1, 9},
			} {
				s.Next(x.n)
				if got := s.Blocks(); got != x.want {
					t.Errorf("Blocks after Next(%d): %d, want %d", x.n, got, x.want)
				}
			}
		}
	}
}

// Blocks may be asked at any time, and as often as one likes.
func TestBlocksChangesNothing(t *testing.T) {
	for _, k := range kinds() {
		all := k.shake(3*k.rate+1, []byte("bytes"))
		s := k.begin([]byte("bytes"))
		for i := range all {
			for range 3 {
				if got, want := s.Blocks(), blocks(k.rate, i); got != want {
					t.Errorf("Blocks after %d bytes: %d, want %d", i, got, want)
				}
			}
			same(t, "the byte", i, s.Next(1), all[i:i+1])
		}
	}
}

func TestLongStream(t *testing.T) {
	for i, k := range kinds() {
		s := k.begin(pattern(100))
		want := []string{"ff071a501d40c4f0ba19ae802c0e3e132336717628a0b50323e58d950fcc9fa2", "eaf79be99f52363f7b6720e2ca1a3185ef2f8cbd6ae87b6b67370a385cfe5be7"}[i]
		if got := digest(s.Next(most)); got != want {
			t.Errorf("%d bytes have the digest %s, want %s", most, got, want)
		}
		if got := s.Blocks(); got != (most-1)/k.rate {
			t.Errorf("Blocks after %d bytes: %d", most, got)
		}
		// It goes on behind the longest output of one call.
		rest := hex.EncodeToString(s.Next(500))
		want = []string{"ccc28604d04c445c", "146b55f6f0ae03ce"}[i]
		if rest[:16] != want {
			t.Errorf("the bytes from %d on: %s, want %s", most, rest[:16], want)
		}
		want = []string{"96de8e5971aba0d4", "51669c33c6e88d44"}[i]
		if rest[len(rest)-16:] != want {
			t.Errorf("the bytes up to %d: %s, want %s", most+500, rest[len(rest)-16:], want)
		}
	}
}

func TestNilStream(t *testing.T) {
	var s *hash.Stream
	for _, n := range []int{0, 1, -1, 136, 168, most, math.MaxInt, math.MinInt} {
		if got := s.Next(n); len(got) != 0 {
			t.Errorf("Next(%d) on nil: %x", n, got)
		}
		if got := s.Blocks(); got != 0 {
			t.Errorf("Blocks on nil: %d", got)
		}
	}
}

// Streams that are read in turn do not disturb each other, nor do other calls.
func TestStreamsInTurn(t *testing.T) {
	b := pattern(150)
	type reader struct {
		kind   kind
		stream *hash.Stream
		all    []byte
		at     int
	}
	var readers []*reader
	for _, k := range kinds() {
		readers = append(readers,
			&reader{k, k.begin(b), k.shake(6000, b), 0},
			&reader{k, k.begin(b), k.shake(6000, b), 0},
			&reader{k, k.begin(), k.shake(6000), 0})
	}
	number := some(3)
	for range 200 {
		r := readers[number(len(readers))]
		n := number(100)
		same(t, "Next", n, r.stream.Next(n), r.all[r.at:r.at+n])
		r.at += n
		hash.SHA256(b)
		hash.SHA512(b)
		hash.Shake128(10, b)
		hash.Shake256(10, b)
		for _, r := range readers {
			if got, want := r.stream.Blocks(), blocks(r.kind.rate, r.at); got != want {
				t.Errorf("Blocks after %d bytes: %d, want %d", r.at, got, want)
			}
		}
	}
}

// P7.4

// Two and three parts, cut everywhere.
func TestAnyParts(t *testing.T) {
	for _, f := range functions() {
		b := pattern(2*f.rate + 5)
		want := f.call(64, b)
		for i := range len(b) + 1 {
			same(t, f.name+" cut at", i, f.call(64, b[:i], b[i:]), want)
			same(t, f.name+" cut at", i, f.call(64, b[:i/2], b[i/2:i], b[i:]), want)
			same(t, f.name+" cut at", i, f.call(64, b[:i], nil, []byte{}, b[i:], nil), want)
		}
	}
}

func TestManyParts(t *testing.T) {
	for _, f := range functions() {
		number := some(4)
		for _, length := range around(f.rate) {
			b := pattern(length)
			want := f.call(64, b)
			for _, size := range []int{1, 2, 7, 8, f.rate - 1, f.rate, f.rate + 1} {
				parts := slices.Collect(slices.Chunk(b, size))
				same(t, f.name+" in equal parts", length, f.call(64, parts...), want)
			}
			for range 10 {
				var parts [][]byte
				for rest := b; len(rest) > 0; {
					n := number(min(len(rest), 40) + 1)
					parts = append(parts, rest[:n])
					rest = rest[n:]
				}
				same(t, f.name+" in parts", length, f.call(64, parts...), want)
			}
		}
	}
}

func TestStreamsOfParts(t *testing.T) {
	for _, k := range kinds() {
		for _, length := range around(k.rate) {
			b := pattern(length)
			all := k.shake(2*k.rate, b)
			for _, parts := range [][][]byte{{b[:length/2], b[length/2:]}, {nil, b, {}}, slices.Collect(slices.Chunk(b, 1))} {
				read(t, k, k.begin(parts...), all, k.rate-1, 2, 0, k.rate-1)
			}
		}
	}
}

// One slice may be several parts.
func TestPartsThatShare(t *testing.T) {
	for _, f := range functions() {
		b := pattern(100)
		want := f.call(64, slices.Concat(b, b, b[10:20], b))
		same(t, f.name, len(b), f.call(64, b, b, b[10:20], b), want)
	}
}

// Rule 5

func TestArgumentsAreNotChanged(t *testing.T) {
	memory := bytes.Repeat([]byte{9}, 1000)
	parts := [][]byte{memory[100:300], nil, memory[400:401], memory[500:836], nil, nil}
	for _, f := range functions() {
		f.call(500, parts[:4]...)
	}
	for _, k := range kinds() {
		s := k.begin(parts[:4]...)
		s.Next(1000)
	}
	if !bytes.Equal(memory, bytes.Repeat([]byte{9}, 1000)) {
		t.Error("the bytes of the arguments are changed")
	}
	for i, length := range []int{200, 0, 1, 336, 0, 0} {
		if len(parts[i]) != length || parts[i] == nil != (length == 0) {
			t.Errorf("the part %d is changed", i)
		}
	}
}

// What the stream was made of, and what it returned, may be changed.
func TestStreamsKeepNothing(t *testing.T) {
	for _, k := range kinds() {
		all := k.shake(10*k.rate, pattern(k.rate+10))
		b := pattern(k.rate + 10)
		parts := [][]byte{b[:5], b[5:]}
		s := k.begin(parts...)
		clear(b)
		parts[0], parts[1] = nil, []byte("others")
		at := 0
		for _, n := range []int{1, 10, k.rate - 11, k.rate, 1, 2 * k.rate, 0, 3 * k.rate} {
			got := s.Next(n)
			same(t, "Next", n, got, all[at:at+n])
			at += n
			for i := range cap(got) {
				got[:cap(got)][i] ^= 255
			}
			clear(b)
		}
	}
}

func TestResultsShareNothing(t *testing.T) {
	b := pattern(50)
	for _, f := range functions() {
		want := bytes.Clone(f.call(64, b))
		got, other := f.call(64, b), f.call(64, b)
		clear(got[:cap(got)])
		same(t, f.name, 64, other, want)
		same(t, f.name, 64, f.call(64, b), want)
	}
	same(t, "the argument", 50, b, pattern(50))
	for _, k := range kinds() {
		s := k.begin(b)
		first := s.Next(10)
		kept := bytes.Clone(first)
		second := s.Next(10)
		clear(second[:cap(second)])
		_ = append(second, 1, 2, 3)
		same(t, "the first bytes", 10, first, kept)
	}
}

// Rules 7 and 8

func TestConcurrentCalls(t *testing.T) {
	b := pattern(500)
	var want [][]byte
	for _, f := range functions() {
		want = append(want, f.call(300, b))
	}
	var all sync.WaitGroup
	for range 8 {
		all.Go(func() {
			for range 20 {
				for i, f := range functions() {
					same(t, f.name, 300, f.call(300, b), want[i])
				}
				for i, k := range kinds() {
					read(t, k, k.begin(b), want[2+i], 1, 167, 0, 100, 32)
				}
			}
		})
	}
	all.Wait()
}

func TestEqualCalls(t *testing.T) {
	for _, f := range functions() {
		want := f.call(200, pattern(200))
		for range 3 {
			f.call(200, []byte("others"))
			same(t, f.name, 200, f.call(200, pattern(200)), want)
		}
	}
}
