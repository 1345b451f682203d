package oid_test

import (
	"bytes"
	"encoding/asn1"
	"math"
	"math/big"
	"regexp"
	"slices"
	"strings"
	"sync"
	"testing"

	"pyx/oid"
)

// greatest is the greatest number of an identifier.
const greatest = 1<<32 - 81

// isIdentifier is the chapter's definition, read number by number.
func isIdentifier(l []uint32) bool {
	if len(l) < 2 || len(l) > 20 {
		return false
	}
	for _, x := range l {
		if uint64(x) >= 1<<32-80 {
			return false
		}
	}
	switch l[0] {
	case 0, 1:
		return l[1] < 40
	case 2:
		return true
	}
	return false
}

// textOf is the text of a list that is an identifier.
func textOf(l []uint32) string {
	s := ""
	for i, x := range l {
		if i > 0 {
			s += "."
		}
		s += big.NewInt(int64(x)).String()
	}
	return s
}

// groupOf is the group of a number of any size.
func groupOf(x *big.Int) []byte {
	digits := x.Text(2)
	digits = strings.Repeat("0", (7-len(digits)%7)%7) + digits
	var b []byte
	for at := 0; at < len(digits); at += 7 {
		var digit byte
		for _, c := range digits[at : at+7] {
			digit = digit*2 + byte(c-'0')
		}
		if at+7 < len(digits) {
			digit += 128
		}
		b = append(b, digit)
	}
	return b
}

// number is a number as one of any size.
func number(x uint64) *big.Int { return new(big.Int).SetUint64(x) }

// contentOf is the content of a list that is an identifier.
func contentOf(l []uint32) []byte {
	b := groupOf(number(40*uint64(l[0]) + uint64(l[1])))
	for _, x := range l[2:] {
		b = append(b, groupOf(number(uint64(x)))...)
	}
	return b
}

var shape = regexp.MustCompile(`\A(0|[1-9][0-9]*)(\.(0|[1-9][0-9]*)){1,19}\z`)

// parsed is the identifier with a text, if there is one.
func parsed(s string) ([]uint32, bool) {
	if !shape.MatchString(s) {
		return nil, false
	}
	var l []uint32
	for _, part := range strings.Split(s, ".") {
		x, _ := new(big.Int).SetString(part, 10)
		if x.BitLen() > 32 {
			return nil, false
		}
		l = append(l, uint32(x.Uint64()))
	}
	return l, isIdentifier(l)
}

// read is the identifier with a content, if there is one.
func read(b []byte) ([]uint32, bool) {
	var numbers []*big.Int
	for len(b) > 0 {
		end := slices.IndexFunc(b, func(c byte) bool { return c < 128 })
		if end < 0 || b[0] == 128 {
			return nil, false
		}
		x := new(big.Int)
		for _, c := range b[:end+1] {
			x.Add(x.Lsh(x, 7), number(uint64(c&127)))
		}
		numbers, b = append(numbers, x), b[end+1:]
	}
	if len(numbers) == 0 {
		return nil, false
	}
	first := uint32(0)
	for ; first < 2 && numbers[0].Cmp(number(40)) >= 0; first++ {
		numbers[0].Sub(numbers[0], number(40))
	}
	l := []uint32{first}
	for _, x := range numbers {
		if x.BitLen() > 32 {
			return nil, false
		}
		l = append(l, uint32(x.Uint64()))
	}
	return l, isIdentifier(l)
}

// good checks everything about a list that is an identifier.
func good(t *testing.T, l []uint32, text string, content []byte) {
	t.Helper()
	if !oid.Valid(l) {
		t.Errorf("%v is not valid", l)
	}
	if got := oid.Text(l); got != text {
		t.Errorf("Text(%v): %q, want %q", l, got, text)
	}
	if got := oid.Content(l); !bytes.Equal(got, content) {
		t.Errorf("Content(%v): %v, want %v", l, got, content)
	}
	if got, ok := oid.Parse(text); !slices.Equal(got, l) || !ok {
		t.Errorf("Parse(%q): %v, %v, want %v", text, got, ok, l)
	}
	if got, ok := oid.Read(content); !slices.Equal(got, l) || !ok {
		t.Errorf("Read(%v): %v, %v, want %v", content, got, ok, l)
	}
}

// head is the beginning of a list or string, for messages.
func head[E any](l []E) []E { return l[:min(len(l), 30)] }

// invalid checks everything about a list that is no identifier.
func invalid(t *testing.T, l []uint32) {
	t.Helper()
	if oid.Valid(l) {
		t.Errorf("%d numbers %v are valid", len(l), head(l))
	}
	if got := oid.Text(l); got != "" {
		t.Errorf("Text of %d numbers %v: %q", len(l), head(l), got)
	}
	if got := oid.Content(l); len(got) != 0 {
		t.Errorf("Content of %d numbers %v: %v", len(l), head(l), got)
	}
}

// judge checks everything about a list.
func judge(t *testing.T, l []uint32) {
	t.Helper()
	if isIdentifier(l) {
		good(t, l, textOf(l), contentOf(l))
	} else {
		invalid(t, l)
	}
}

// notParsed checks that strings are texts of nothing.
func notParsed(t *testing.T, texts ...string) {
	t.Helper()
	for _, s := range texts {
		if l, ok := oid.Parse(s); len(l) != 0 || ok {
			t.Errorf("Parse of %d bytes, %q: %v, %v", len(s), head([]byte(s)), l, ok)
		}
	}
}

// notRead checks that strings are contents of nothing.
func notRead(t *testing.T, contents ...[]byte) {
	t.Helper()
	for _, b := range contents {
		if l, ok := oid.Read(b); len(l) != 0 || ok {
			t.Errorf("Read of %d bytes, %v: %v, %v", len(b), head(b), l, ok)
		}
	}
}

// judgeText checks what is parsed of a string.
func judgeText(t *testing.T, s string) {
	t.Helper()
	want, ok := parsed(s)
	if !ok {
		notParsed(t, s)
		return
	}
	if got, ok := oid.Parse(s); !slices.Equal(got, want) || !ok {
		t.Errorf("Parse(%q): %v, %v, want %v", s, got, ok, want)
	}
	if got := oid.Text(want); got != s {
		t.Errorf("Text(%v): %q, want %q", want, got, s)
	}
}

// judgeContent checks what is read of bytes.
func judgeContent(t *testing.T, b []byte) {
	t.Helper()
	want, ok := read(b)
	if !ok {
		notRead(t, b)
		return
	}
	if got, ok := oid.Read(b); !slices.Equal(got, want) || !ok {
		t.Errorf("Read(%v): %v, %v, want %v", b, got, ok, want)
	}
	if got := oid.Content(want); !bytes.Equal(got, b) {
		t.Errorf("Content(%v): %v, want %v", want, got, b)
	}
}

// list returns first numbers and further ones up to a length.
func list(length int, further uint32, first ...uint32) []uint32 {
	l := slices.Clone(first[:min(length, len(first))])
	for len(l) < length {
		l = append(l, further)
	}
	return l
}

// numbers are those at which something changes.
var numbers = []uint32{0, 1, 2, 3, 9, 10, 38, 39, 40, 41, 47, 48, 79, 80, 81, 99, 100, 119, 120, 127, 128, 129, 255, 256, 999, 16303, 16304, 16383, 16384, 65535, 65536, 2097071, 2097072, 2097151, 2097152, 268435375, 268435376, 268435455, 268435456, 1<<31 - 1, 1 << 31, 1<<32 - 120, 1<<32 - 82, greatest, 1<<32 - 80, 1<<32 - 79, 1<<32 - 41, 1<<32 - 40, 1<<32 - 2, 1<<32 - 1}

// some are identifiers of different lengths and kinds.
func some() [][]uint32 {
	return [][]uint32{
		{2, 16, 840, 1, 101, 3, 4, 4, 1}, {1, 2, 840, 113549, 1, 9, 16, 3, 17}, {0, 0}, {1, 39, 128}, {2, 999, 3}, {2, greatest, greatest}, {0, 39, greatest, 0, 16384},
		list(20, 0, 2), list(20, greatest, 2), list(19, 127, 1, 3),
	}
}

// P9.1 and P9.2: identifiers

func TestKnownIdentifiers(t *testing.T) {
	good(t, []uint32{2, 16, 840, 1, 101, 3, 4, 4, 1}, "2.16.840.1.101.3.4.4.1", []byte{96, 134, 72, 1, 101, 3, 4, 4, 1})
	good(t, []uint32{2, 16, 840, 1, 101, 3, 4, 3, 17}, "2.16.840.1.101.3.4.3.17", []byte{96, 134, 72, 1, 101, 3, 4, 3, 17})
	good(t, []uint32{1, 2, 840, 113549}, "1.2.840.113549", []byte{42, 134, 72, 134, 247, 13})
	good(t, []uint32{1, 3, 6, 1, 5, 5, 7, 6, 34}, "1.3.6.1.5.5.7.6.34", []byte{43, 6, 1, 5, 5, 7, 6, 34})
	good(t, []uint32{2, 5, 4, 3}, "2.5.4.3", []byte{85, 4, 3})
	good(t, []uint32{2, 999, 3}, "2.999.3", []byte{136, 55, 3})
}

// The group of the first two numbers.
func TestFirstGroups(t *testing.T) {
	for _, x := range []struct {
		l       []uint32
		text    string
		content []byte
	}{
		{[]uint32{0, 0}, "0.0", []byte{0}},
		{[]uint32{0, 1}, "0.1", []byte{1}},
		{[]uint32{0, 39}, "0.39", []byte{39}},
		{[]uint32{1, 0}, "1.0", []byte{40}},
		{[]uint32{1, 39}, "1.39", []byte{79}},
		{[]uint32{2, 0}, "2.0", []byte{80}},
		{[]uint32{2, 39}, "2.39", []byte{119}},
		{[]uint32{2, 40}, "2.40", []byte{120}},
		{[]uint32{2, 47}, "2.47", []byte{127}},
		{[]uint32{2, 48}, "2.48", []byte{129, 0}},
		{[]uint32{2, 16303}, "2.16303", []byte{255, 127}},
		{[]uint32{2, 16304}, "2.16304", []byte{129, 128, 0}},
		{[]uint32{2, 268435375}, "2.268435375", []byte{255, 255, 255, 127}},
		{[]uint32{2, 268435376}, "2.268435376", []byte{129, 128, 128, 128, 0}},
		{[]uint32{2, greatest}, "2.4294967215", []byte{143, 255, 255, 255, 127}},
	} {
		good(t, x.l, x.text, x.content)
		good(t, append(x.l, 5), x.text+".5", append(x.content, 5))
	}
}

// The groups of further numbers, at each place.
func TestFurtherGroups(t *testing.T) {
	for _, x := range []struct {
		number uint32
		text   string
		group  []byte
	}{
		{0, "0", []byte{0}},
		{1, "1", []byte{1}},
		{40, "40", []byte{40}},
		{127, "127", []byte{127}},
		{128, "128", []byte{129, 0}},
		{129, "129", []byte{129, 1}},
		{255, "255", []byte{129, 127}},
		{16383, "16383", []byte{255, 127}},
		{16384, "16384", []byte{129, 128, 0}},
		{2097151, "2097151", []byte{255, 255, 127}},
		{2097152, "2097152", []byte{129, 128, 128, 0}},
		{268435455, "268435455", []byte{255, 255, 255, 127}},
		{268435456, "268435456", []byte{129, 128, 128, 128, 0}},
		{1 << 31, "2147483648", []byte{136, 128, 128, 128, 0}},
		{greatest, "4294967215", []byte{143, 255, 255, 255, 47}},
	} {
		for at := 2; at < 20; at++ {
			good(t, append(list(at, 7, 1, 2), x.number), "1.2"+strings.Repeat(".7", at-2)+"."+x.text, slices.Concat([]byte{42}, bytes.Repeat([]byte{7}, at-2), x.group))
		}
		all := list(20, x.number, 1, 2)
		good(t, all, "1.2"+strings.Repeat("."+x.text, 18), append([]byte{42}, bytes.Repeat(x.group, 18)...))
	}
}

func TestNumbersOfNumbers(t *testing.T) {
	for length := range 45 {
		for first := range uint32(5) {
			for _, further := range []uint32{0, 1, 39, 127, 128, greatest} {
				judge(t, list(length, further, first, 3))
				judge(t, list(length, further, first))
			}
		}
	}
	for _, length := range []int{255, 256, 257, 258, 276, 1<<16 + 2, 1<<16 + 20} {
		invalid(t, list(length, 1, 2))
	}
}

func TestFewNumbers(t *testing.T) {
	invalid(t, nil)
	invalid(t, []uint32{})
	for _, x := range numbers {
		invalid(t, []uint32{x})
	}
}

func TestSecondNumbers(t *testing.T) {
	for _, first := range numbers {
		for _, second := range numbers {
			judge(t, []uint32{first, second})
			judge(t, []uint32{first, second, 0})
			judge(t, list(20, greatest, first, second))
		}
		for second := range uint32(300) {
			judge(t, []uint32{first, second})
		}
	}
	for first := range uint32(2) {
		good(t, []uint32{first, 39}, textOf([]uint32{first, 39}), []byte{byte(40*first + 39)})
		invalid(t, []uint32{first, 40})
		invalid(t, []uint32{first, 41, 1})
		invalid(t, []uint32{first, 1<<32 - 40})
	}
	invalid(t, []uint32{3, 0})
	invalid(t, []uint32{3, 39, 1})
}

func TestGreatestNumbersAtEachPlace(t *testing.T) {
	for length := 2; length <= 20; length++ {
		for first := range uint32(3) {
			for at := range length {
				l := list(length, 3, first)
				for _, x := range []uint32{1<<32 - 80, 1<<32 - 79, 1<<32 - 1} {
					l[at] = x
					invalid(t, l)
				}
				l[at] = greatest
				if at >= 2 || at == 1 && first == 2 {
					good(t, l, textOf(l), contentOf(l))
				} else {
					invalid(t, l)
				}
			}
		}
	}
}

func TestEachNumber(t *testing.T) {
	for _, x := range numbers {
		judge(t, []uint32{2, x})
		judge(t, []uint32{0, 0, x})
		judge(t, []uint32{1, 39, x, x, x})
		judge(t, list(20, x, 2))
		judge(t, list(20, x, 1, 39))
	}
	for x := range uint32(70000) {
		judge(t, []uint32{2, x, x, 1})
	}
	for x := uint32(1); x < 1<<31; x += x/97 + 1 {
		judge(t, []uint32{2, x, x + 1})
		judge(t, []uint32{0, 1, x, 2 * x})
	}
}

// The library writes contents too, with the head of a node before them.
func TestContentsOfTheLibrary(t *testing.T) {
	for _, l := range some() {
		var same asn1.ObjectIdentifier
		for _, x := range l {
			same = append(same, int(x))
		}
		node, err := asn1.Marshal(same)
		if got := oid.Content(l); err != nil || !bytes.HasSuffix(node, got) || len(node) != len(got)+2 {
			t.Errorf("Content(%v): %v, want the end of %v, %v", l, got, node, err)
		}
		if got := oid.Text(l); got != same.String() {
			t.Errorf("Text(%v): %q, want %q", l, got, same)
		}
	}
}

// P9.2: texts of nothing

func TestTextsOfNothing(t *testing.T) {
	notParsed(t, "", " ", "\x00", ".", "..", "1", "2", "1.", ".1", "2.1.", ".2.1", "1..2", "1.2..3", "..1.2", "1.2..", ".1.2.")
	notParsed(t, "01.2", "00.1", "1.02", "1.00", "2.1.00", "2.1.01", "2.1.000", "02.1", "2.1.0128", "2.1.007.3")
	notParsed(t, "+1.2", "1.+2", "2.-1", "-1.2", "-0.1", "1.-0", "2.1.+3", "2.1.-3", "2.1.+", "2.1.-")
	notParsed(t, " 1.2", "1.2 ", "1 .2", "1. 2", "2.1. 3", "2.1.3\n", "2.1.3\r\n", "\t2.1", "2.1.3\x00", "2. .3")
	notParsed(t, "1.a", "a.1", "1.0x2", "0x1.2", "2.0b1", "2.0o7", "2.1_0", "2.1.1e3", "2.1e0", "2.1,3", "2,1", "2.1/3", "2.1:3", "2.1.3;", "2/1", "{2 1}", "2 1", "oid:2.1", "2.1.3f", "2.1.A", "2.x", "2.1.*")
	notParsed(t, "1.40", "0.40", "1.41.3", "0.4294967215", "3.1", "3.0", "4.1", "9.9.9", "10.1", "20.1", "21.3", "256.1", "4294967296.1", "4294967298.1", "18446744073709551618.1")
	notParsed(t, "2.1\u0660", "2.\u0661", "\u0662.1", "2\u30021", "2\uff0e1", "2.1\u00b2", "2.\xff", "\xff", "2.1\xc0\x80", "\ufeff2.1", "2.\u0967")
}

// tooGreat are numbers that are too great, many of which lose bits to become small
// ones in words of some size.
func tooGreat() []*big.Int {
	var l []*big.Int
	for x := range uint64(80) {
		l = append(l, number(1<<32-80+x))
	}
	for _, bits := range []uint{32, 33, 35, 36, 42, 49, 56, 63, 64, 65, 70, 77, 128, 1000, 10000} {
		power := new(big.Int).Lsh(number(1), bits)
		l = append(l, new(big.Int).Sub(power, number(1)))
		for _, x := range []uint64{0, 1, 2, 39, 40, 41, 80, 127, 128, 1 << 31, greatest} {
			l = append(l, new(big.Int).Add(power, number(x)))
		}
	}
	for n := int64(10); n <= 40; n++ {
		l = append(l, new(big.Int).Add(new(big.Int).Exp(number(10), big.NewInt(n), nil), number(1)))
	}
	return l
}

func TestTextsOfNumbersThatAreTooGreat(t *testing.T) {
	for _, x := range tooGreat() {
		s := x.String()
		notParsed(t, s, s+".1", "2."+s, "1."+s, "0."+s, "2.1."+s, "2."+s+".1", "1.2.3."+s+".4", "1.2.3."+s+"."+s, "2"+strings.Repeat(".1", 18)+"."+s)
	}
	for _, digit := range []string{"0", "1", "9", "10", "4294967296"} {
		s := strings.Repeat(digit, 1<<20)
		notParsed(t, s, "2."+s, "2.1."+s, s+".1", "2.1."+s+".1")
	}
	notParsed(t, "2."+strings.Repeat("0", 1<<20)+"1", "2.1."+strings.Repeat("0", 40)+"3", "2.1.00000000003")
}

func TestTextsOfOtherLengths(t *testing.T) {
	for length := 2; length <= 20; length++ {
		s := "2" + strings.Repeat(".1", length-1)
		if l, ok := oid.Parse(s); !slices.Equal(l, list(length, 1, 2)) || !ok {
			t.Errorf("Parse(%q): %v, %v", s, l, ok)
		}
		notParsed(t, s+".", "."+s, s+" ", s+"\n", s+".x", s+"..1")
	}
	for _, dots := range []int{20, 21, 22, 39, 255, 256, 257, 275, 1 << 16, 1<<16 + 19, 1 << 20} {
		notParsed(t, "2"+strings.Repeat(".1", dots), strings.Repeat("1.", dots), strings.Repeat(".", dots), strings.Repeat(".", dots)+"2.1")
	}
	notParsed(t, "2"+strings.Repeat(".1", 19)+".0", "0"+strings.Repeat(".0", 20), "2"+strings.Repeat(".1", 18)+".1.1")
}

func TestAllShortTexts(t *testing.T) {
	each([]byte("0123.4-"), 6, func(b []byte) { judgeText(t, string(b)) })
	each([]byte("012.93"), 7, func(b []byte) { judgeText(t, string(b)) })
	each([]byte("1.2"), 11, func(b []byte) { judgeText(t, string(b)) })
}

func TestChangedTexts(t *testing.T) {
	for _, l := range some() {
		b := []byte(textOf(l))
		judgeText(t, string(b))
		changes(b, func(b []byte) { judgeText(t, string(b)) })
	}
}

// P9.2: contents of nothing

func TestContentsOfNothing(t *testing.T) {
	notRead(t, nil, []byte{})
	for _, b := range [][]byte{{128}, {129}, {255}, {128, 128}, {129, 128}, {255, 255, 255, 255}} {
		notRead(t, b, append([]byte{42}, b...), append([]byte{42, 134, 72}, b...), append([]byte{136, 55}, b...))
	}
	for _, c := range []byte{0, 1, 39, 40, 79, 80, 127} {
		notRead(t, []byte{128, c}, []byte{42, 128, c}, []byte{42, 128, c, 5}, []byte{128, 128, c}, []byte{42, 128, 128, c}, []byte{128, 129, c}, []byte{42, 128, 129, c})
	}
	for zeros := 1; zeros < 100; zeros++ {
		b := append(bytes.Repeat([]byte{128}, zeros), 5)
		notRead(t, b, append([]byte{42}, b...), append(bytes.Repeat([]byte{128}, zeros), 129, 5), b[:zeros])
	}
}

// Groups whose later digits are zeros are no groups with zeros before others.
func TestZerosInsideGroups(t *testing.T) {
	good(t, []uint32{2, 128*128*128 - 80, 128 * 128, 129 * 128}, "2.2097072.16384.16512", []byte{129, 128, 128, 0, 129, 128, 0, 129, 129, 0})
	good(t, []uint32{1, 2, 128*128 + 5, 127 * 128}, "1.2.16389.16256", []byte{42, 129, 128, 5, 255, 0})
}

func TestContentsOfNumbersThatAreTooGreat(t *testing.T) {
	for _, x := range tooGreat() {
		b := groupOf(x)
		notRead(t, append([]byte{42}, b...), slices.Concat([]byte{42}, b, []byte{1}), slices.Concat([]byte{42, 1, 2}, b, b), slices.Concat(bytes.Repeat([]byte{1}, 18), b))
		if x.BitLen() > 32 {
			notRead(t, b, append(slices.Clone(b), 1), append(slices.Clone(b), b...))
		}
	}
	for _, c := range []byte{127, 128, 129, 192, 255} {
		b := bytes.Repeat([]byte{c}, 1<<20)
		notRead(t, b, append(slices.Clone(b), 5), append([]byte{42}, b...), append([]byte{42, 144}, append(b, 0)...))
	}
}

// A first group may be one of 80 more than the greatest number.
func TestGreatestFirstGroups(t *testing.T) {
	for x := uint64(1<<32 - 200); x < 1<<32; x++ {
		good(t, []uint32{2, uint32(x - 80)}, textOf([]uint32{2, uint32(x - 80)}), groupOf(number(x)))
	}
	for x := uint64(1 << 32); x < 1<<32+200; x++ {
		notRead(t, groupOf(number(x)))
	}
}

func TestEachFirstGroup(t *testing.T) {
	for x := range uint64(40000) {
		first := min(x/40, 2)
		l := []uint32{uint32(first), uint32(x - 40*first)}
		good(t, l, textOf(l), groupOf(number(x)))
		l = append(l, 16384)
		good(t, l, textOf(l), append(groupOf(number(x)), 129, 128, 0))
	}
}

func TestContentsOfOtherLengths(t *testing.T) {
	for groups := 1; groups < 19; groups++ {
		b := bytes.Repeat([]byte{81}, groups)
		if l, ok := oid.Read(b); !slices.Equal(l, list(groups+1, 81, 2, 1)) || !ok {
			t.Errorf("Read(%v): %v, %v", b, l, ok)
		}
		notRead(t, append(b, 129), append(b, 128, 0), append(b, 128))
	}
	for _, group := range [][]byte{{0}, {1}, {40}, {80}, {127}, {129, 0}, {143, 255, 255, 255, 47}} {
		b := bytes.Repeat(group, 19)
		if l, ok := oid.Read(b); len(l) != 20 || !ok {
			t.Errorf("Read(%v): %v, %v", b, l, ok)
		}
		for _, groups := range []int{20, 21, 22, 38, 255, 256, 257, 274, 1 << 16, 1<<16 + 18, 1 << 20} {
			notRead(t, bytes.Repeat(group, groups))
		}
	}
	notRead(t, append(bytes.Repeat([]byte{1}, 19), 129), append(bytes.Repeat([]byte{1}, 19), 128), append(bytes.Repeat([]byte{1}, 19), 0))
}

func TestAllShortContents(t *testing.T) {
	each([]byte{0, 1, 39, 40, 79, 80, 81, 127, 128, 129, 255}, 4, func(b []byte) { judgeContent(t, b) })
	each([]byte{0, 127, 128, 129, 143, 144, 255}, 6, func(b []byte) { judgeContent(t, b) })
	each([]byte{47, 48, 127, 143, 144, 255}, 6, func(b []byte) { judgeContent(t, b) })
	each(everyByte(), 2, func(b []byte) { judgeContent(t, b) })
}

func TestChangedContents(t *testing.T) {
	for _, l := range some() {
		b := contentOf(l)
		judgeContent(t, b)
		changes(b, func(b []byte) { judgeContent(t, b) })
	}
}

func everyByte() []byte {
	all := make([]byte, 256)
	for i := range all {
		all[i] = byte(i)
	}
	return all
}

// each calls f with all strings of an alphabet with at most n bytes.
func each(alphabet []byte, n int, f func(b []byte)) {
	var grow func(b []byte)
	grow = func(b []byte) {
		f(b)
		if len(b) == n {
			return
		}
		for _, c := range alphabet {
			grow(append(b[:len(b):len(b)], c))
		}
	}
	grow(nil)
}

// changes calls f with the beginnings and ends of b, and with all strings that
// differ from b in one byte that is changed, taken out or put in.
func changes(b []byte, f func(b []byte)) {
	for at := range len(b) + 1 {
		f(b[:at])
		f(b[at:])
		for _, c := range everyByte() {
			f(slices.Insert(slices.Clone(b), at, c))
			if at < len(b) {
				other := slices.Clone(b)
				other[at] = c
				f(other)
			}
		}
		if at < len(b) {
			f(slices.Delete(slices.Clone(b), at, at+1))
		}
	}
}

// P9.3

// below is the chapter's definition.
func below(l, above []uint32) bool {
	if !isIdentifier(l) || !isIdentifier(above) || len(l) <= len(above) {
		return false
	}
	for i, x := range above {
		if l[i] != x {
			return false
		}
	}
	return true
}

func checkBelow(t *testing.T, l, above []uint32, want bool) {
	t.Helper()
	if got := oid.Below(l, above); got != want {
		t.Errorf("Below(%v, %v): %v", l, above, got)
	}
}

func TestBelow(t *testing.T) {
	arc := []uint32{2, 16, 840, 1}
	checkBelow(t, []uint32{2, 16, 840, 1, 101}, arc, true)
	checkBelow(t, []uint32{2, 16, 840, 1, 0}, arc, true)
	checkBelow(t, []uint32{2, 16, 840, 1, 101, 3, 4}, arc, true)
	checkBelow(t, []uint32{2, 16}, []uint32{2, 16}, false)
	checkBelow(t, arc, arc, false)
	checkBelow(t, arc, []uint32{2, 16, 840, 1, 101}, false)
	checkBelow(t, arc, []uint32{2, 16, 840}, true)
	checkBelow(t, []uint32{2, 16, 840, 2}, arc, false)
	checkBelow(t, []uint32{2, 16, 840, 2, 101}, arc, false)
	checkBelow(t, []uint32{2, 16, 840, 10, 1}, arc, false)
	checkBelow(t, []uint32{2, 17, 840, 1, 101}, arc, false)
	checkBelow(t, []uint32{1, 16, 840, 1, 101}, arc, false)
	checkBelow(t, []uint32{2, 16, 841, 1, 101}, arc, false)
	checkBelow(t, []uint32{1, 2, 2, 16, 840, 1}, arc, false)
	checkBelow(t, list(20, 0, 2), list(2, 0, 2), true)
	checkBelow(t, list(20, 0, 2), list(19, 0, 2), true)
}

// What is no identifier is not below, and nothing is below it.
func TestBelowOfOtherLists(t *testing.T) {
	for _, x := range [][2][]uint32{
		{{2, 16}, {2}}, {{2, 16}, nil}, {{2, 16}, {}}, {{2}, nil}, {{2}, {2}}, {nil, nil}, {{}, {}}, {nil, {2, 16}}, {{2}, {2, 16}},
		{{3, 1, 1}, {3, 1}}, {{3, 1, 1}, {2, 1}}, {{1, 40, 1}, {1, 40}}, {{0, 40, 1}, {0, 40}}, {{2, 1, 1<<32 - 80}, {2, 1}}, {{2, 1, 1<<32 - 1}, {2, 1}}, {{2, 1 << 31, 1<<32 - 1}, {2, 1 << 31}},
		{{2, 1, 1<<32 - 80, 1}, {2, 1, 1<<32 - 80}}, {{2, 1, 3}, {2, 1<<32 - 1}}, {list(21, 0, 2), list(20, 0, 2)}, {list(21, 0, 2), list(2, 0, 2)}, {list(22, 0, 2), list(21, 0, 2)}, {list(20, 0, 2), list(21, 0, 2)},
	} {
		checkBelow(t, x[0], x[1], false)
		checkBelow(t, x[1], x[0], false)
	}
}

func TestBelowOfAllPairs(t *testing.T) {
	lists := [][]uint32{nil}
	var grow func(l []uint32)
	grow = func(l []uint32) {
		lists = append(lists, l)
		if len(l) == 4 {
			return
		}
		for _, x := range []uint32{0, 2, 40, 1<<32 - 80} {
			grow(append(l[:len(l):len(l)], x))
		}
	}
	grow(nil)
	lists = append(append(lists, some()...), list(21, 0, 2), list(2, 0, 2), list(19, 0, 2), list(18, greatest, 2), list(22, 0, 2))
	for _, l := range lists {
		for _, above := range lists {
			checkBelow(t, l, above, below(l, above))
		}
	}
}

func TestBelowAtEachLength(t *testing.T) {
	for _, long := range [][]uint32{list(20, 5, 2, 16), list(20, greatest, 2), list(20, 0, 1, 39, 7, 8, 9)} {
		for length := 2; length <= 20; length++ {
			for above := 2; above <= 20; above++ {
				checkBelow(t, long[:length], long[:above], length > above)
			}
			for at := range length {
				other := slices.Clone(long[:length])
				other[at] ^= 1
				checkBelow(t, long, other, false)
				other[at] = long[at] ^ 1<<16
				checkBelow(t, long, other, false)
			}
		}
	}
}

// P9.4

// dice yields numbers that look random.
type dice uint64

func (d *dice) below(n uint64) uint64 {
	*d = *d*6364136223846793005 + 1442695040888963407
	return uint64(*d) >> 32 % n
}

// identifier returns one with numbers of all sizes.
func (d *dice) identifier() []uint32 {
	l := []uint32{uint32(d.below(3)), uint32(d.below(40))}
	for range d.below(19) {
		l = append(l, uint32(d.below(1<<32-80)>>d.below(32)))
	}
	if l[0] == 2 {
		l[1] = uint32(d.below(1<<32-80) >> d.below(32))
	}
	return l
}

func TestRandomIdentifiers(t *testing.T) {
	d := dice(9)
	texts, contents := map[string]string{}, map[string]string{}
	for range 30000 {
		l := d.identifier()
		judge(t, l)
		s, b := oid.Text(l), string(oid.Content(l))
		if known, ok := texts[b]; ok && known != s {
			t.Errorf("%q and %q have the same content", known, s)
		}
		if known, ok := contents[s]; ok && known != b {
			t.Errorf("%q has two contents", s)
		}
		texts[b], contents[s] = s, b
	}
	if len(texts) < 25000 || len(texts) != len(contents) {
		t.Errorf("%d contents, %d texts", len(texts), len(contents))
	}
}

// All lists of a few numbers have different texts and contents.
func TestDifferentIdentifiers(t *testing.T) {
	texts, contents, count := map[string]bool{}, map[string]bool{}, 0
	values := []uint32{0, 1, 2, 11, 12, 39, 40, 47, 48, 80, 127, 128, 129, 1280, 16384, greatest}
	var grow func(l []uint32)
	grow = func(l []uint32) {
		judge(t, l)
		if oid.Valid(l) {
			texts[oid.Text(l)], contents[string(oid.Content(l))] = true, true
			count++
		}
		if len(l) == 4 {
			return
		}
		for _, x := range values {
			grow(append(l[:len(l):len(l)], x))
		}
	}
	grow(nil)
	if count != (6+6+16)*(1+16+256) || len(texts) != count || len(contents) != count {
		t.Errorf("%d identifiers, %d texts, %d contents", count, len(texts), len(contents))
	}
}

func TestFromTextToContentAndBack(t *testing.T) {
	for _, l := range some() {
		parsed, _ := oid.Parse(oid.Text(l))
		back, ok := oid.Read(oid.Content(parsed))
		if !ok || oid.Text(back) != textOf(l) || !bytes.Equal(oid.Content(back), contentOf(l)) {
			t.Errorf("%v: %v, %v", l, back, ok)
		}
	}
}

// Rules 4 to 8

func TestNilAndEmpty(t *testing.T) {
	for _, l := range [][]uint32{nil, {}, make([]uint32, 0, 9), some()[0][:0]} {
		invalid(t, l)
		checkBelow(t, l, l, false)
		checkBelow(t, l, []uint32{2, 1}, false)
		checkBelow(t, []uint32{2, 1}, l, false)
	}
	notParsed(t, "")
	notRead(t, nil, []byte{}, make([]byte, 0, 9), []byte{42, 3}[:0])
}

// roomy returns l with some unused capacity, and all that it has.
func roomy[E any](l []E, unused ...E) (part, all []E) {
	all = append(slices.Clone(l), unused...)
	return all[:len(l)], all
}

// spoilWords and spoilBytes change all of a slice and its unused capacity.
func spoilWords(l []uint32) {
	for i := range l[:cap(l)] {
		l[:cap(l)][i] ^= 1 << 20
	}
}

func spoilBytes(b []byte) {
	for i := range b[:cap(b)] {
		b[:cap(b)][i] ^= 0x15
	}
}

// lists are identifiers and others.
func lists() [][]uint32 {
	return append(some(), nil, []uint32{2}, []uint32{3, 1, 1}, []uint32{1, 40}, []uint32{2, 1, math.MaxUint32}, list(21, 0, 2))
}

func TestListsAreNotChanged(t *testing.T) {
	for _, l := range lists() {
		part, all := roomy(l, 9, 8, 7, 200, 300000)
		before := slices.Clone(all)
		oid.Valid(part)
		oid.Text(part)
		spoilBytes(oid.Content(part))
		oid.Below(part, part)
		oid.Below(part, some()[0])
		oid.Below(some()[0], part)
		if len(part) > 2 {
			oid.Below(part, part[:2])
		}
		if !slices.Equal(all, before) {
			t.Errorf("%v has become %v", before, all)
		}
	}
}

func TestContentsAreNotChanged(t *testing.T) {
	for _, l := range some() {
		for _, b := range [][]byte{contentOf(l), append(contentOf(l), 128), {128}, {42, 128, 1}, bytes.Repeat([]byte{1}, 25), bytes.Repeat([]byte{255}, 25)} {
			part, all := roomy(b, 1, 2, 3, 200, 5)
			before := slices.Clone(all)
			if got, ok := oid.Read(part); ok {
				spoilWords(got)
			}
			if !bytes.Equal(all, before) {
				t.Errorf("%v has become %v", before, all)
			}
		}
	}
}

// What lies behind a slice, in its capacity, is no part of it.
func TestUnusedCapacity(t *testing.T) {
	for _, l := range some() {
		part, _ := roomy(l, 1, 2, 3)
		good(t, part, textOf(l), contentOf(l))
		b, _ := roomy(contentOf(l), 1, 128, 3)
		if got, ok := oid.Read(b); !slices.Equal(got, l) || !ok {
			t.Errorf("Read(%v): %v, %v", b, got, ok)
		}
	}
	notRead(t, []byte{42, 129, 1}[:2], []byte{42}[:0])
	invalid(t, []uint32{2, 1}[:1])
}

func TestResultsShareNothing(t *testing.T) {
	for _, l := range some() {
		text, content := textOf(l), contentOf(l)
		first, _ := oid.Read(content)
		second, _ := oid.Read(content)
		third, _ := oid.Parse(text)
		fourth, _ := oid.Parse(text)
		spoilWords(first)
		spoilWords(third)
		spoilBytes(content)
		if !slices.Equal(second, l) || !slices.Equal(fourth, l) {
			t.Errorf("%v has become %v and %v", l, second, fourth)
		}
		kept := oid.Text(second)
		b, other := oid.Content(second), oid.Content(second)
		spoilWords(second)
		spoilBytes(b)
		if !bytes.Equal(other, contentOf(l)) || kept != text {
			t.Errorf("%v: the content has become %v, the text %q", l, other, kept)
		}
		good(t, l, text, contentOf(l))
	}
}

// Results of several calls stay as they are while further ones are made.
func TestResultsStay(t *testing.T) {
	var all [][]uint32
	var contents [][]byte
	for _, l := range some() {
		one, _ := oid.Parse(textOf(l))
		two, _ := oid.Read(contentOf(l))
		all, contents = append(all, one, two), append(contents, oid.Content(l))
	}
	for i, l := range some() {
		if !slices.Equal(all[2*i], l) || !slices.Equal(all[2*i+1], l) || !bytes.Equal(contents[i], contentOf(l)) {
			t.Errorf("%v: %v, %v, %v", l, all[2*i], all[2*i+1], contents[i])
		}
	}
}

func TestAnswersStayTheSame(t *testing.T) {
	for range 3 {
		for _, l := range lists() {
			judge(t, l)
			notParsed(t, "1.40", textOf(l)+".")
			notRead(t, []byte{128, 1}, []byte{42, 129})
			checkBelow(t, l, []uint32{2, 16}, below(l, []uint32{2, 16}))
		}
	}
}

func TestConcurrentCalls(t *testing.T) {
	var all sync.WaitGroup
	for range 8 {
		all.Go(func() {
			for range 50 {
				for _, l := range lists() {
					judge(t, l)
					checkBelow(t, l, []uint32{2, 16}, below(l, []uint32{2, 16}))
				}
				notParsed(t, "1.40", "2.1.03")
				notRead(t, []byte{128, 1}, []byte{42, 129})
			}
		})
	}
	all.Wait()
}
