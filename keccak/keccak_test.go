package keccak_test

import (
	"bytes"
	"encoding/binary"
	"encoding/hex"
	"flag"
	"math"
	"math/bits"
	"os"
	"os/exec"
	"sync"
	"testing"

	"pyx/keccak"
)

// constants are those that FIPS 202 makes.
var constants = [24]uint64{
	0x0000000000000001, 0x0000000000008082, 0x800000000000808a, 0x8000000080008000,
	0x000000000000808b, 0x0000000080000001, 0x8000000080008081, 0x8000000000008009,
	0x000000000000008a, 0x0000000000000088, 0x0000000080008009, 0x000000008000000a,
	0x000000008000808b, 0x800000000000008b, 0x8000000000008089, 0x8000000000008003,
	0x8000000000008002, 0x8000000000000080, 0x000000000000800a, 0x800000008000000a,
	0x8000000080008081, 0x8000000000008080, 0x0000000080000001, 0x8000000080008008,
}

// offsets has a row for each y, and in it a number for each x; these are the
// numbers of the table of FIPS 202 modulo 64.
var offsets = [5][5]int{
	{0, 1, 190 % 64, 28, 91 % 64},
	{36, 300 % 64, 6, 55, 276 % 64},
	{3, 10, 171 % 64, 153 % 64, 231 % 64},
	{105 % 64, 45, 15, 21, 136 % 64},
	{210 % 64, 66 % 64, 253 % 64, 120 % 64, 78 % 64},
}

// ofZeros is the permutation of the state of zeros, and again its permutation.
var ofZeros, ofZerosTwice = keccak.State{
	0xf1258f7940e1dde7, 0x84d5ccf933c0478a, 0xd598261ea65aa9ee, 0xbd1547306f80494d, 0x8b284e056253d057,
	0xff97a42d7f8e6fd4, 0x90fee5a0a44647c4, 0x8c5bda0cd6192e76, 0xad30a6f71b19059c, 0x30935ab7d08ffc64,
	0xeb5aa93f2317d635, 0xa9a6e6260d712103, 0x81a57c16dbcf555f, 0x43b831cd0347c826, 0x01f22f1a11a5569f,
	0x05e5635a21d9ae61, 0x64befef28cc970f2, 0x613670957bc46611, 0xb87c5a554fd00ecb, 0x8c3ee88a1ccf32c8,
	0x940c7922ae3a2614, 0x1841f924a2c509e4, 0x16f53526e70465c2, 0x75f644e97f30a13b, 0xeaf1ff7b5ceca249,
}, keccak.State{
	0x2d5c954df96ecb3c, 0x6a332cd07057b56d, 0x093d8d1270d76b6c, 0x8a20d9b25569d094, 0x4f9c4f99e5e7f156,
	0xf957b9a2da65fb38, 0x85773dae1275af0d, 0xfaf4f247c3d810f7, 0x1f1b9ee6f79a8759, 0xe4fecc0fee98b425,
	0x68ce61b6b9ce68a1, 0xdeea66c4ba8f974f, 0x33c43d836eafb1f5, 0xe00654042719dbd9, 0x7cf8a9f009831265,
	0xfd5449a6bf174743, 0x97ddad33d8994b40, 0x48ead5fc5d0be774, 0xe3b8c8ee55b7b03c, 0x91a0226e649e42e9,
	0x900e3129e7badd7b, 0x202a9ec5faa3cce8, 0x5b3402464e1c3db6, 0x609f4e62a44c1059, 0x20d06cd26a8fbf5c,
}

// first is the function that TestFirst calls before all others, in a process
// that TestFirstCalls starts.
var first = flag.String("first", "", "the function that TestFirst calls first")

// otherRounds are numbers of no round; some are like 0 to 23 in their low bits.
var otherRounds = []int{math.MinInt, math.MinInt + 1, math.MinInt + 23, -1 << 32, -1<<32 + 1, -1<<31 - 1, -1 << 31, -256, -255, -233, -32, -25, -24, -23, -2, -1, 24, 25, 26, 31, 32, 33, 47, 48, 63, 64, 127, 128, 255, 256, 257, 279, 1 << 16, 1<<31 - 1, 1 << 31, 1 << 32, 1<<32 + 1, 1<<32 + 23, 1 << 62, math.MaxInt - 23, math.MaxInt - 1, math.MaxInt}

// some returns a state that looks random.
func some(number int) keccak.State {
	var s keccak.State
	seed := uint64(number)
	for i := range s {
		for range 2 {
			seed = seed*6364136223846793005 + 1442695040888963407
			s[i] = s[i]<<32 | seed>>32
		}
	}
	return s
}

// flip returns s with another bit at the index i.
func flip(s keccak.State, i int) keccak.State {
	s[i/64] ^= 1 << (i % 64)
	return s
}

// ones returns the state of all ones.
func ones() keccak.State {
	var s keccak.State
	for i := range s {
		s[i] = math.MaxUint64
	}
	return s
}

// only returns the state of zeros but for a lane.
func only(i int, lane uint64) keccak.State {
	var s keccak.State
	s[i] = lane
	return s
}

// states returns the states of zeros and ones, those of one lane, and some
// others.
func states() []keccak.State {
	l := []keccak.State{{}, ones()}
	for i := range 25 {
		l = append(l, only(i, math.MaxUint64))
	}
	for i := range 100 {
		l = append(l, some(i))
	}
	return l
}

// cube is a state as FIPS 202 describes it: the bit x, y, z.
type cube [5][5][64]bool

func cubeOf(s keccak.State) cube {
	var a cube
	for x := range 5 {
		for y := range 5 {
			for z := range 64 {
				a[x][y][z] = s[5*y+x]>>z&1 == 1
			}
		}
	}
	return a
}

func (a cube) state() keccak.State {
	var s keccak.State
	for x := range 5 {
		for y := range 5 {
			for z := range 64 {
				if a[x][y][z] {
					s[5*y+x] |= 1 << z
				}
			}
		}
	}
	return s
}

// each returns the cube of the bits that f gives for x, y and z.
func each(f func(x, y, z int) bool) cube {
	var a cube
	for x := range 5 {
		for y := range 5 {
			for z := range 64 {
				a[x][y][z] = f(x, y, z)
			}
		}
	}
	return a
}

// steps returns the state after the mappings theta, rho, pi and chi of FIPS
// 202, which are the round without its constant, bit by bit.
func steps(s keccak.State) keccak.State {
	a := cubeOf(s)
	var c [5][64]bool
	for x := range 5 {
		for z := range 64 {
			for y := range 5 {
				c[x][z] = c[x][z] != a[x][y][z]
			}
		}
	}
	a = each(func(x, y, z int) bool {
		return a[x][y][z] != (c[(x+4)%5][z] != c[(x+1)%5][(z+63)%64])
	})
	a = each(func(x, y, z int) bool { return a[x][y][(z+64-offsets[y][x])%64] })
	a = each(func(x, y, z int) bool { return a[(x+3*y)%5][x][z] })
	a = each(func(x, y, z int) bool {
		return a[x][y][z] != (!a[(x+1)%5][y][z] && a[(x+2)%5][y][z])
	})
	return a.state()
}

// before returns the state whose round i is s. The first step, done 192 times,
// changes nothing, nor does the third one, done 4 times.
func before(s keccak.State, i int) keccak.State {
	s[0] ^= constants[i]
	for range 3 {
		b := s
		for j := range s {
			row := j / 5 * 5
			s[j] = b[j] ^ (^b[row+(j+1)%5] & b[row+(j+2)%5])
		}
	}
	b := s
	for y := range 5 {
		for x := range 5 {
			s[x+5*y] = bits.RotateLeft64(b[y+(2*x+3*y)%5*5], -offsets[y][x])
		}
	}
	for range 191 {
		var c [5]uint64
		for j, lane := range s {
			c[j%5] ^= lane
		}
		for j := range s {
			s[j] ^= c[(j+4)%5] ^ bits.RotateLeft64(c[(j+1)%5], 1)
		}
	}
	return s
}

// sameRounds checks each of the rounds of a state.
func sameRounds(t *testing.T, s keccak.State) {
	t.Helper()
	after := steps(s)
	for i, constant := range constants {
		want := after
		want[0] ^= constant
		if got := keccak.Round(s, i); got != want {
			t.Errorf("Round(%x, %d): %x, want %x", s, i, got, want)
		}
	}
}

// P6.1

func TestConstants(t *testing.T) {
	got := keccak.Constants()
	for i, want := range constants {
		if got[i] != want {
			t.Errorf("RC[%d]: %#x, want %#x", i, got[i], want)
		}
	}
}

func TestOffsets(t *testing.T) {
	got := keccak.Offsets()
	for y, row := range offsets {
		for x, want := range row {
			if got[x+5*y] != want {
				t.Errorf("r[%d, %d]: %d, want %d", x, y, got[x+5*y], want)
			}
		}
	}
}

// The tables that are kept are the ones that the other functions compute.
func TestTables(t *testing.T) {
	for range 3 {
		c, o := keccak.Tables()
		if c != constants || c != keccak.Constants() {
			t.Errorf("the constants of Tables: %x", c)
		}
		for y, row := range offsets {
			if [5]int(o[5*y:5*y+5]) != row {
				t.Errorf("the offsets of Tables for y = %d: %d", y, o[5*y:5*y+5])
			}
		}
		if o != keccak.Offsets() {
			t.Errorf("the offsets of Tables: %d", o)
		}
	}
}

// What was returned is the caller's: a change of it changes nothing else.
func TestChangedTables(t *testing.T) {
	changedTables(t, keccak.Constants(), keccak.Offsets())
	c, o := keccak.Tables()
	changedTables(t, c, o)
}

// changedTables changes tables and checks all that is returned afterwards.
func changedTables(t *testing.T, c [24]uint64, o [25]int) {
	t.Helper()
	for i := range c {
		c[i] = 0
	}
	for i := range o {
		o[i] = 63
	}
	TestConstants(t)
	TestOffsets(t)
	TestTables(t)
	sameRounds(t, some(1))
	if got := keccak.Permute(keccak.State{}); got != ofZeros {
		t.Errorf("Permute of zeros: %x", got)
	}
	if c != [24]uint64{} || o[0] != 63 || o[24] != 63 {
		t.Error("tables that were returned before were changed")
	}
}

// P6.2

func TestRoundsOfZeros(t *testing.T) {
	for i, constant := range constants {
		if got := keccak.Round(keccak.State{}, i); got != (keccak.State{0: constant}) {
			t.Errorf("Round(zeros, %d): %x", i, got)
		}
	}
	// Ones stay ones: each step changes them by zeros.
	for i, constant := range constants {
		want := ones()
		want[0] ^= constant
		if got := keccak.Round(ones(), i); got != want {
			t.Errorf("Round(ones, %d): %x", i, got)
		}
	}
}

func TestRoundsOfEachBit(t *testing.T) {
	for i := range 1600 {
		sameRounds(t, flip(keccak.State{}, i))
		sameRounds(t, flip(ones(), i))
	}
}

func TestRounds(t *testing.T) {
	for _, s := range states() {
		sameRounds(t, s)
	}
}

func TestNoRound(t *testing.T) {
	for _, s := range append(states(), flip(keccak.State{}, 0), flip(keccak.State{}, 1599)) {
		for _, i := range otherRounds {
			if got := keccak.Round(s, i); got != s {
				t.Errorf("Round(%x, %d): %x", s, i, got)
			}
		}
	}
}

func TestPermutationOfZeros(t *testing.T) {
	once := keccak.Permute(keccak.State{})
	if once != ofZeros {
		t.Errorf("Permute of zeros: %x", once)
	}
	if twice := keccak.Permute(once); twice != ofZerosTwice {
		t.Errorf("Permute of zeros, again: %x", twice)
	}
}

// The rounds in order, as they are defined and as Round does them.
func TestPermutationIsItsRounds(t *testing.T) {
	for _, s := range states() {
		defined, done := s, s
		for i, constant := range constants {
			defined = steps(defined)
			defined[0] ^= constant
			done = keccak.Round(done, i)
		}
		if got := keccak.Permute(s); got != defined || got != done {
			t.Errorf("Permute(%x): %x, want %x, and by rounds %x", s, got, defined, done)
		}
	}
	for i := range 1600 {
		s := flip(keccak.State{}, i)
		done := s
		for j := range 24 {
			done = keccak.Round(done, j)
		}
		if got := keccak.Permute(s); got != done {
			t.Errorf("Permute of the bit %d: %x, want %x", i, got, done)
		}
	}
}

// Outputs of FIPS 202 that begin with those of one permutation: SHA3-256,
// SHA3-512, SHAKE128 and SHAKE256 of no bytes, and SHA3-256 of "abc".
func TestKnownOutputs(t *testing.T) {
	for _, x := range []struct {
		text   string
		rate   int
		suffix byte
		want   string
	}{
		{"", 136, 6, "a7ffc6f8bf1ed76651c14756a061d662f580ff4de43b49fa82d80a4b80f8434a"},
		{"", 72, 6, "a69f73cca23a9ac5c8b567dc185a756e97c982164fe25859e0d1dcc1475c80a615b2123af1f5f94c11e3e9402c3ac558f500199d95b6d3e301758586281dcd26"},
		{"", 168, 31, "7f9c2ba4e88f827d616045507605853ed73b8093f6efbc88eb1a6eacfa66ef26"},
		{"", 136, 31, "46b9dd2b0ba88d13233b3feb743eeb243fcd52ea62b81b82b50c27646ed5762f"},
		{"abc", 136, 6, "3a985da74fe225b2045c172d6bd390bd855f086e3e9d525b46bfe24511431532"},
	} {
		var b [200]byte
		copy(b[:], x.text)
		b[len(x.text)] = x.suffix
		b[x.rate-1] ^= 128
		out := keccak.Bytes(keccak.Permute(keccak.From(b)))
		if got := hex.EncodeToString(out[:len(x.want)/2]); got != x.want {
			t.Errorf("the output for %q, %d and %d: %s, want %s", x.text, x.rate, x.suffix, got, x.want)
		}
	}
}

// P6.3

// sameBytes checks that a state and bytes are those of each other.
func sameBytes(t *testing.T, s keccak.State, b [200]byte) {
	t.Helper()
	if got := keccak.Bytes(s); got != b {
		t.Errorf("Bytes(%x): %x, want %x", s, got, b)
	}
	if got := keccak.From(b); got != s {
		t.Errorf("From(%x): %x, want %x", b, got, s)
	}
}

func TestOrderOfBytes(t *testing.T) {
	sameBytes(t, keccak.State{}, [200]byte{})
	sameBytes(t, ones(), [200]byte(bytes.Repeat([]byte{255}, 200)))
	for lane := range 25 {
		var b [200]byte
		copy(b[8*lane:], []byte{8, 7, 6, 5, 4, 3, 2, 1})
		sameBytes(t, only(lane, 0x0102030405060708), b)
	}
	var b [200]byte
	for i := range b {
		b[i] = byte(i)
	}
	s := keccak.From(b)
	if s[0] != 0x0706050403020100 || s[1] != 0x0f0e0d0c0b0a0908 || s[24] != 0xc7c6c5c4c3c2c1c0 {
		t.Errorf("From(0 to 199): %x", s)
	}
	sameBytes(t, s, b)
}

func TestEachByte(t *testing.T) {
	for i := range 200 {
		for c := range 256 {
			var b [200]byte
			b[i] = byte(c)
			sameBytes(t, only(i/8, uint64(c)<<(i%8*8)), b)
		}
	}
}

func TestEachBitOfBytes(t *testing.T) {
	for i := range 1600 {
		var b [200]byte
		b[i/8] = 1 << (i % 8)
		sameBytes(t, flip(keccak.State{}, i), b)
		for j := range b {
			b[j] ^= 255
		}
		sameBytes(t, flip(ones(), i), b)
	}
}

func TestBytesOfStates(t *testing.T) {
	for _, s := range states() {
		var b [200]byte
		for i, lane := range s {
			binary.LittleEndian.PutUint64(b[8*i:], lane)
		}
		sameBytes(t, s, b)
	}
}

// P6.4

// A state is found again from its permutation, and from each of its rounds.
func TestPermutationIsInverted(t *testing.T) {
	for _, s := range states() {
		for i := range constants {
			if got := before(keccak.Round(s, i), i); got != s {
				t.Errorf("the state before Round(%x, %d): %x", s, i, got)
			}
		}
		got := keccak.Permute(s)
		for i := range constants {
			got = before(got, len(constants)-1-i)
		}
		if got != s {
			t.Errorf("the state before Permute(%x): %x", s, got)
		}
	}
}

func TestDifferentStates(t *testing.T) {
	seen := map[keccak.State]bool{}
	permute := func(s keccak.State) {
		after := keccak.Permute(s)
		if seen[after] {
			t.Errorf("Permute(%x) is that of another state", s)
		}
		seen[after] = true
	}
	for _, s := range []keccak.State{{}, ones(), some(1)} {
		permute(s)
		for i := range 1600 {
			permute(flip(s, i))
		}
	}
}

// States that differ in one bit differ in each round.
func TestStatesThatDifferInOneBit(t *testing.T) {
	for _, s := range []keccak.State{{}, ones(), some(2), some(3)} {
		for i := range 1600 {
			if keccak.Round(s, i%24) == keccak.Round(flip(s, i), i%24) {
				t.Errorf("Round(%x, %d) is that of another state", s, i%24)
			}
		}
	}
}

// Rules 7 and 8

// atOnce calls f in several goroutines that begin at the same time.
func atOnce(f func(number int)) {
	var all sync.WaitGroup
	begin := make(chan bool)
	for number := range 16 {
		all.Go(func() {
			<-begin
			f(number)
		})
	}
	close(begin)
	all.Wait()
}

// calls has a check of each function that needs the tables.
func calls() map[string]func(*testing.T) {
	return map[string]func(*testing.T){
		"Tables":    TestTables,
		"Constants": TestConstants,
		"Offsets":   TestOffsets,
		"Round":     TestRoundsOfZeros,
		"Rounds":    func(t *testing.T) { sameRounds(t, some(4)) },
		"Permute":   TestPermutationOfZeros,
	}
}

// The first calls of a process are those of several goroutines, with each of
// the functions as the very first one.
func TestFirstCalls(t *testing.T) {
	program, err := os.Executable()
	if err != nil {
		t.Fatal(err)
	}
	for name := range calls() {
		for range 3 {
			if out, err := exec.Command(program, "-test.run=^TestFirst$", "-first="+name).CombinedOutput(); err != nil {
				t.Errorf("%s first: %v\n%s", name, err, out)
			}
		}
	}
	// All of them at the same time.
	if out, err := exec.Command(program, "-test.run=^TestFirst$", "-first=all").CombinedOutput(); err != nil {
		t.Errorf("all first: %v\n%s", err, out)
	}
}

// TestFirst is a part of TestFirstCalls and does nothing without the flag.
func TestFirst(t *testing.T) {
	if *first == "" {
		return
	}
	if call := calls()[*first]; call != nil {
		atOnce(func(int) { call(t) })
	}
	names := []string{"Tables", "Constants", "Offsets", "Round", "Rounds", "Permute"}
	atOnce(func(number int) { calls()[names[number%len(names)]](t) })
}

func TestConcurrentCalls(t *testing.T) {
	atOnce(func(number int) {
		for i := range 50 {
			s := some(number + i)
			sameRounds(t, s)
			sameBytes(t, s, keccak.Bytes(s))
			TestTables(t)
			TestConstants(t)
			TestOffsets(t)
			TestPermutationOfZeros(t)
		}
	})
}
