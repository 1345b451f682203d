package base64_test

import (
	"bytes"
	library "encoding/base64"
	"math"
	"slices"
	"strings"
	"sync"
	"testing"

	"pyx/base64"
)

// alphabet is an alphabet as the chapter defines it, and as the library has it.
type alphabet struct {
	number  int
	digits  string
	library *library.Encoding
}

var alphabets = []alphabet{
	{base64.Std, "ABCDEFGHIJKLMNOPQRSTUVWXYZabcdefghijklmnopqrstuvwxyz0123456789+/", library.StdEncoding.Strict()},
	{base64.URL, "ABCDEFGHIJKLMNOPQRSTUVWXYZabcdefghijklmnopqrstuvwxyz0123456789-_", library.RawURLEncoding.Strict()},
}

// others are numbers of no alphabet; some are like 1 and 2 in their low bits.
var others = []int{math.MinInt, math.MinInt + 1, math.MinInt + 2, -1 << 32, -2, -1, 0, 3, 4, 5, 63, 64, 255, 257, 258, 1<<16 + 1, 1<<32 + 1, 1<<32 + 2, math.MaxInt - 1, math.MaxInt}

// some returns n bytes that look random.
func some(n int) []byte {
	b, seed := make([]byte, n), uint32(n)
	for i := range b {
		seed = seed*1664525 + 1013904223
		b[i] = byte(seed >> 24)
	}
	return b
}

// accepts checks that the bytes are those of a string.
func accepts(t *testing.T, a int, s string, want []byte) {
	t.Helper()
	if got, ok := base64.Decode(a, s); !ok || !bytes.Equal(got, want) {
		t.Errorf("Decode(%d, %q): %v, %v, want %v", a, s, got, ok, want)
	}
}

// rejects checks that strings are the encoding of nothing.
func rejects(t *testing.T, a int, l ...string) {
	t.Helper()
	for _, s := range l {
		if got, ok := base64.Decode(a, s); ok || len(got) != 0 {
			t.Errorf("Decode(%d, %q): %v, %v", a, s, got, ok)
		}
	}
}

// judge checks Decode with the library: a string is accepted if it decodes and
// is what its bytes encode to (the library skips line feeds).
func judge(t *testing.T, a alphabet, s string) {
	t.Helper()
	if want, err := a.library.DecodeString(s); err == nil && a.library.EncodeToString(want) == s {
		accepts(t, a.number, s, want)
	} else {
		rejects(t, a.number, s)
	}
}

// P4.1

func TestEachDigit(t *testing.T) {
	for _, a := range alphabets {
		for value := range 64 {
			digit := a.digits[value]
			if got, ok := base64.Digit(a.number, value); got != digit || !ok {
				t.Errorf("Digit(%d, %d): %q, %v, want %q", a.number, value, got, ok, digit)
			}
			if got, ok := base64.Value(a.number, digit); got != value || !ok {
				t.Errorf("Value(%d, %q): %d, %v, want %d", a.number, digit, got, ok, value)
			}
		}
	}
}

func TestNoValue(t *testing.T) {
	for _, a := range alphabets {
		for _, value := range []int{math.MinInt, math.MinInt + 1, -1 << 32, -256, -255, -65, -64, -63, -1, 64, 65, 127, 128, 255, 256, 257, 1 << 16, 1 << 32, 1<<32 + 1, math.MaxInt} {
			if got, ok := base64.Digit(a.number, value); got != 0 || ok {
				t.Errorf("Digit(%d, %d): %q, %v", a.number, value, got, ok)
			}
		}
	}
}

func TestNoDigit(t *testing.T) {
	for _, a := range alphabets {
		count := 0
		for c := range 256 {
			digit := byte(c)
			got, ok := base64.Value(a.number, digit)
			if ok {
				count++
			}
			if ok != (strings.IndexByte(a.digits, digit) >= 0) || !ok && got != 0 {
				t.Errorf("Value(%d, %q): %d, %v", a.number, digit, got, ok)
			}
		}
		if count != 64 {
			t.Errorf("alphabet %d has %d digits", a.number, count)
		}
	}
}

func TestDigitsOfOtherAlphabets(t *testing.T) {
	for _, a := range others {
		for value := -1; value <= 64; value++ {
			if got, ok := base64.Digit(a, value); got != 0 || ok {
				t.Errorf("Digit(%d, %d): %q, %v", a, value, got, ok)
			}
		}
		for c := range 256 {
			if got, ok := base64.Value(a, byte(c)); got != 0 || ok {
				t.Errorf("Value(%d, %q): %d, %v", a, byte(c), got, ok)
			}
		}
	}
}

// P4.2 and P4.3

func TestKnownEncodings(t *testing.T) {
	for _, x := range []struct{ bytes, std, url string }{
		{"", "", ""},
		{"f", "Zg==", "Zg"}, {"fo", "Zm8=", "Zm8"}, {"foo", "Zm9v", "Zm9v"}, {"foob", "Zm9vYg==", "Zm9vYg"}, {"fooba", "Zm9vYmE=", "Zm9vYmE"}, {"foobar", "Zm9vYmFy", "Zm9vYmFy"},
		{"\x00", "AA==", "AA"}, {"\x00\x00", "AAA=", "AAA"}, {"\x00\x00\x00", "AAAA", "AAAA"}, {"\x00\x00\x00\x00", "AAAAAA==", "AAAAAA"},
		{"\xff", "/w==", "_w"}, {"\xff\xff", "//8=", "__8"}, {"\xff\xff\xff", "////", "____"}, {"\xff\xff\xff\xff", "/////w==", "_____w"},
		{"\x01\x02\x03", "AQID", "AQID"}, {"\xfb\xef\xbe", "++++", "----"}, {"\x04\x10\x41", "BBBB", "BBBB"}, {"\xfb\xf0", "+/A=", "-_A"},
	} {
		for a, want := range map[int]string{base64.Std: x.std, base64.URL: x.url} {
			if got := base64.Encode(a, []byte(x.bytes)); got != want {
				t.Errorf("Encode(%d, %q): %q, want %q", a, x.bytes, got, want)
			}
			if got := base64.Length(a, len(x.bytes)); got != len(want) {
				t.Errorf("Length(%d, %d): %d, want %d", a, len(x.bytes), got, len(want))
			}
			accepts(t, a, want, []byte(x.bytes))
		}
	}
}

// check compares the encoding of bytes with that of the library, and decodes it.
func check(t *testing.T, a alphabet, b []byte) {
	t.Helper()
	s := base64.Encode(a.number, b)
	if want := a.library.EncodeToString(b); s != want {
		t.Errorf("Encode(%d, %v): %q, want %q", a.number, b, s, want)
	}
	if got := base64.Length(a.number, len(b)); got != len(s) {
		t.Errorf("Length(%d, %d): %d, want %d", a.number, len(b), got, len(s))
	}
	accepts(t, a.number, s, b)
}

func TestNoBytes(t *testing.T) {
	for _, a := range alphabets {
		check(t, a, nil)
		check(t, a, []byte{})
	}
}

func TestOneAndTwoBytes(t *testing.T) {
	for _, a := range alphabets {
		for c := range 256 {
			check(t, a, []byte{byte(c)})
			for d := range 256 {
				check(t, a, []byte{byte(c), byte(d)})
			}
		}
	}
}

// Each bit of three bytes, alone and as the only one that is missing.
func TestBitsOfThreeBytes(t *testing.T) {
	for _, a := range alphabets {
		for i := range 24 {
			b := make([]byte, 3)
			b[i/8] = 0x80 >> (i % 8)
			check(t, a, b)
			for j := range b {
				b[j] ^= 0xff
			}
			check(t, a, b)
		}
	}
}

func TestLengthsOfBytes(t *testing.T) {
	for _, a := range alphabets {
		for n := range 300 {
			check(t, a, some(n))
			check(t, a, make([]byte, n))
			check(t, a, bytes.Repeat([]byte{255}, n))
		}
		for _, n := range []int{3 * 50000, 3*50000 + 1, 3*50000 + 2, 1 << 20} {
			check(t, a, some(n))
		}
	}
}

func TestLength(t *testing.T) {
	for _, x := range []struct{ n, std, url int }{
		{0, 0, 0}, {1, 4, 2}, {2, 4, 3}, {3, 4, 4}, {4, 8, 6}, {5, 8, 7}, {6, 8, 8}, {7, 12, 10}, {32, 44, 43}, {48, 64, 64}, {100, 136, 134},
		{1<<31 - 1, 2863311532, 2863311530}, {1 << 31, 2863311532, 2863311531}, {1 << 32, 5726623064, 5726623062},
		{1<<40 - 1, 1466015503700, 1466015503700}, {1 << 40, 1466015503704, 1466015503702},
	} {
		if std, url := base64.Length(base64.Std, x.n), base64.Length(base64.URL, x.n); std != x.std || url != x.url {
			t.Errorf("Length of %d: %d and %d, want %d and %d", x.n, std, url, x.std, x.url)
		}
	}
	for _, n := range []int{-1, -2, -3, -4, -255, -1 << 31, -1 << 32, -1 << 40, math.MinInt + 1, math.MinInt} {
		if std, url := base64.Length(base64.Std, n), base64.Length(base64.URL, n); std != 0 || url != 0 {
			t.Errorf("Length of %d: %d and %d", n, std, url)
		}
	}
}

func TestOtherAlphabets(t *testing.T) {
	for _, a := range others {
		for n := range 8 {
			if got := base64.Encode(a, some(n)); got != "" {
				t.Errorf("Encode(%d, ..): %q", a, got)
			}
			if got := base64.Length(a, n); got != 0 {
				t.Errorf("Length(%d, %d): %d", a, n, got)
			}
		}
		for _, n := range []int{math.MinInt, -1, 100, 1 << 40} {
			if got := base64.Length(a, n); got != 0 {
				t.Errorf("Length(%d, %d): %d", a, n, got)
			}
		}
		rejects(t, a, "", "A", "AA", "AAA", "AAAA", "AA==", "AAA=", "/w==", "_w", "=", "====")
	}
}

func TestOfTheOtherAlphabet(t *testing.T) {
	rejects(t, base64.Std, "-AAA", "A-AA", "AA-A", "AAA-", "_AAA", "AAA_", "_w==", "__8=", "AA", "AAA", "AAAAAA", "_w")
	rejects(t, base64.URL, "+AAA", "A+AA", "AA+A", "AAA+", "/AAA", "AAA/", "/w", "//8", "AA==", "AAA=", "AAAAAA==", "/w==")
}

func TestEqualsSigns(t *testing.T) {
	// Missing, too many, and none that belong there.
	rejects(t, base64.Std, "A", "AA", "AAA", "AAAAA", "AAAAAA", "AAAAAAA", "AA=", "A=", "A==", "A===", "AAA==", "AAA===", "AA===", "AA====", "AAAA=", "AAAA==", "AAAA===", "AAAA====", "AAAAA=", "AAAAA==", "AAAAA===", "AAAAAAAA====")
	rejects(t, base64.Std, "=", "==", "===", "====", "=====", "========", strings.Repeat("=", 100))
	// In another place.
	rejects(t, base64.Std, "=AAA", "A=AA", "AA=A", "==AA", "=AA=", "=A=A", "A=A=", "A==A", "AA==AAAA", "AA==AA==", "AAA=AAAA", "AAA=AAA=", "AAAAA=AA", "AAAA=AAA", "=AAAAAA=", "AA=AAAAA")
	rejects(t, base64.URL, "=", "==", "===", "====", "A=", "A==", "A===", "AA=", "AA==", "AA===", "AAA=", "AAA==", "AAAA=", "AAAA==", "AAAA====", "=A", "=AA", "A=A", "AA=A", "AA==AA", "AAAAAA==", "AAAAAAA=")
	// The digit A is not read from an equals sign.
	for _, a := range alphabets {
		for n := range 12 {
			for i := range n {
				s := []byte(strings.Repeat("A", n))
				s[i] = '='
				judge(t, a, string(s))
			}
		}
	}
}

func TestSpacesAndLineFeeds(t *testing.T) {
	for _, a := range alphabets {
		for n := range 8 {
			s := base64.Encode(a.number, some(n))
			for _, space := range []string{" ", "\n", "\r", "\r\n", "\t", "\v", "\f", "\x00", "    ", "\n\n\n\n", "\r\n\r\n", "\u00a0", "\u2028"} {
				for i := range len(s) + 1 {
					rejects(t, a.number, s[:i]+space+s[i:])
				}
			}
			for i := range len(s) {
				for _, space := range []string{" ", "\n", "\r", "\t", "\x00"} {
					rejects(t, a.number, s[:i]+space+s[i+1:])
				}
			}
		}
	}
}

// All last parts of two and three digits: those with other bits than zero at the end are the encoding of nothing.
func TestLastBits(t *testing.T) {
	for _, a := range alphabets {
		signs := "=="
		if a.number == base64.URL {
			signs = ""
		}
		for i := range 64 {
			for j := range 64 {
				two := string([]byte{a.digits[i], a.digits[j]}) + signs
				if j%16 == 0 {
					accepts(t, a.number, "AAAA"+two, []byte{0, 0, 0, byte(i<<2 | j>>4)})
				} else {
					rejects(t, a.number, two, "AAAA"+two)
				}
				for k := range 64 {
					three := string([]byte{a.digits[i], a.digits[j], a.digits[k]}) + signs[:len(signs)/2]
					if k%4 == 0 {
						accepts(t, a.number, three, []byte{byte(i<<2 | j>>4), byte(j<<4 | k>>2)})
					} else {
						rejects(t, a.number, three)
					}
				}
			}
		}
	}
}

func TestLengthsOfStrings(t *testing.T) {
	for _, a := range alphabets {
		for n := range 200 {
			s := strings.Repeat("A", n)
			for _, x := range []string{s, s + "=", s + "==", s + "==="} {
				judge(t, a, x)
			}
		}
	}
}

// A digit is a byte: a rune that ends with the bits of one is none.
func TestRunes(t *testing.T) {
	for _, a := range alphabets {
		rejects(t, a.number, "\u0141\u0141", "\u0141AA", "AA\u0141", "\u0141\u0141\u0141\u0141", "\uff21\uff21\uff21\uff21", "\uff21A", "AA\u010100", "\xc1\xc1\xc1\xc1", "\x80AAA", "AAA\xff", "A\xffAA", "\xef\xbb\xbfA", "\ufeffAAAAA", "AAAA\ufeffA")
	}
}

// P4.4

// Every byte of encodings is replaced by, and every place filled with, every byte.
func TestChangedStrings(t *testing.T) {
	for _, a := range alphabets {
		for n := range 9 {
			s := base64.Encode(a.number, some(n))
			for i := range len(s) {
				judge(t, a, s[:i]+s[i+1:])
				judge(t, a, s[:i])
				for c := range 256 {
					judge(t, a, s[:i]+string([]byte{byte(c)})+s[i+1:])
					judge(t, a, s[:i]+string([]byte{byte(c)})+s[i:])
				}
			}
			for c := range 256 {
				judge(t, a, s+string([]byte{byte(c)}))
			}
		}
	}
}

// All strings of up to eight letters of a few: what is accepted is the encoding of its bytes, so that no other string has the same.
func TestDifferentStrings(t *testing.T) {
	for _, a := range alphabets {
		seen := map[string]string{}
		for _, s := range slices.Concat(words("ABQg+_=\n", 5), words("Aw=", 8)) {
			judge(t, a, s)
			b, ok := base64.Decode(a.number, s)
			if !ok {
				continue
			}
			if other, again := seen[string(b)]; again && other != s {
				t.Errorf("%q and %q have the same bytes", s, other)
			}
			seen[string(b)] = s
			if got := base64.Encode(a.number, b); got != s {
				t.Errorf("Encode of Decode(%d, %q): %q", a.number, s, got)
			}
		}
	}
}

// words returns all strings of up to n bytes of those of letters.
func words(letters string, n int) []string {
	all := []string{""}
	from := 0
	for range n {
		to := len(all)
		for _, s := range all[from:to] {
			for i := range len(letters) {
				all = append(all, s+letters[i:i+1])
			}
		}
		from = to
	}
	return all
}

// An error in any group of a long string is found.
func TestEachGroupIsChecked(t *testing.T) {
	for _, a := range alphabets {
		s := base64.Encode(a.number, some(400))
		for i := range len(s) {
			for _, c := range []string{"=", "\n", "!", "\x00", "\xff"} {
				if changed := s[:i] + c + s[i+1:]; changed != s {
					rejects(t, a.number, changed)
				}
			}
		}
	}
}

// Rules 3 to 8

func TestNothingTogetherWithFalse(t *testing.T) {
	for _, a := range alphabets {
		for _, s := range []string{"AAAAAAA!", "AAAAAAAAAB", "AAAAAAAAAB==", "AAAA=", "A"} {
			if got, ok := base64.Decode(a.number, s); got != nil || ok {
				t.Errorf("Decode(%d, %q): %v, %v", a.number, s, got, ok)
			}
		}
	}
}

func TestArgumentsAreNotChanged(t *testing.T) {
	for _, a := range alphabets {
		for n := range 12 {
			all := some(20)
			before := bytes.Clone(all)
			s := base64.Encode(a.number, all[4:4+n])
			if !bytes.Equal(all, before) {
				t.Errorf("Encode of %d bytes changed its argument", n)
			}
			clear(all)
			accepts(t, a.number, s, before[4:4+n])
		}
	}
}

func TestResultsShareNothing(t *testing.T) {
	for _, a := range alphabets {
		for n := range 12 {
			s := base64.Encode(a.number, some(n))
			first, _ := base64.Decode(a.number, s)
			second, _ := base64.Decode(a.number, s)
			clear(first[:cap(first)])
			if !bytes.Equal(second, some(n)) || base64.Encode(a.number, some(n)) != s {
				t.Errorf("two results of Decode(%d, %q) share memory", a.number, s)
			}
		}
	}
}

func TestConcurrentCalls(t *testing.T) {
	var all sync.WaitGroup
	for i := range 8 {
		all.Go(func() {
			for n := range 100 {
				a := alphabets[(i+n)%2]
				check(t, a, some(n+i))
				rejects(t, a.number, "A", "A===", "A+/-_")
			}
		})
	}
	all.Wait()
}
