package params_test

import (
	"math"
	"slices"
	"strings"
	"sync"
	"testing"

	"pyx/api"
	"pyx/oid"
	"pyx/params"
)

// table returns the chapter's table, with every row written out.
func table() []params.Set {
	return []params.Set{
		{1, 1, "ML-KEM-512", 800, 1632, 64, 0, []uint32{2, 16, 840, 1, 101, 3, 4, 4, 1}, -111, 0},
		{2, 1, "ML-KEM-768", 1184, 2400, 64, 0, []uint32{2, 16, 840, 1, 101, 3, 4, 4, 2}, -112, 0},
		{3, 1, "ML-KEM-1024", 1568, 3168, 64, 0, []uint32{2, 16, 840, 1, 101, 3, 4, 4, 3}, -113, 0},
		{4, 2, "ML-DSA-44", 1312, 2560, 32, 2420, []uint32{2, 16, 840, 1, 101, 3, 4, 3, 17}, -48, 0},
		{5, 2, "ML-DSA-65", 1952, 4032, 32, 3309, []uint32{2, 16, 840, 1, 101, 3, 4, 3, 18}, -49, 0},
		{6, 2, "ML-DSA-87", 2592, 4896, 32, 4627, []uint32{2, 16, 840, 1, 101, 3, 4, 3, 19}, -50, 0},
		{7, 3, "SLH-DSA-SHA2-128s", 32, 64, 0, 7856, []uint32{2, 16, 840, 1, 101, 3, 4, 3, 20}, -51, 0},
		{8, 3, "SLH-DSA-SHA2-128f", 32, 64, 0, 17088, []uint32{2, 16, 840, 1, 101, 3, 4, 3, 21}, -52, 0},
		{9, 3, "SLH-DSA-SHA2-192s", 48, 96, 0, 16224, []uint32{2, 16, 840, 1, 101, 3, 4, 3, 22}, -53, 0},
		{10, 3, "SLH-DSA-SHA2-192f", 48, 96, 0, 35664, []uint32{2, 16, 840, 1, 101, 3, 4, 3, 23}, -54, 0},
		{11, 3, "SLH-DSA-SHA2-256s", 64, 128, 0, 29792, []uint32{2, 16, 840, 1, 101, 3, 4, 3, 24}, -55, 0},
		{12, 3, "SLH-DSA-SHA2-256f", 64, 128, 0, 49856, []uint32{2, 16, 840, 1, 101, 3, 4, 3, 25}, -56, 0},
		{13, 3, "SLH-DSA-SHAKE-128s", 32, 64, 0, 7856, []uint32{2, 16, 840, 1, 101, 3, 4, 3, 26}, -57, 0},
		{14, 3, "SLH-DSA-SHAKE-128f", 32, 64, 0, 17088, []uint32{2, 16, 840, 1, 101, 3, 4, 3, 27}, -58, 0},
		{15, 3, "SLH-DSA-SHAKE-192s", 48, 96, 0, 16224, []uint32{2, 16, 840, 1, 101, 3, 4, 3, 28}, -59, 0},
		{16, 3, "SLH-DSA-SHAKE-192f", 48, 96, 0, 35664, []uint32{2, 16, 840, 1, 101, 3, 4, 3, 29}, -60, 0},
		{17, 3, "SLH-DSA-SHAKE-256s", 64, 128, 0, 29792, []uint32{2, 16, 840, 1, 101, 3, 4, 3, 30}, -61, 0},
		{18, 3, "SLH-DSA-SHAKE-256f", 64, 128, 0, 49856, []uint32{2, 16, 840, 1, 101, 3, 4, 3, 31}, -62, 0},
		{19, 4, "HSS/LMS", 0, 0, 0, 0, []uint32{1, 2, 840, 113549, 1, 9, 16, 3, 17}, 0, 0},
		{20, 5, "XMSS-SHA2_10_256", 68, 0, 0, 2500, []uint32{1, 3, 6, 1, 5, 5, 7, 6, 34}, 0, 1},
		{21, 5, "XMSS-SHA2_16_256", 68, 0, 0, 2692, []uint32{1, 3, 6, 1, 5, 5, 7, 6, 34}, 0, 2},
		{22, 5, "XMSS-SHA2_20_256", 68, 0, 0, 2820, []uint32{1, 3, 6, 1, 5, 5, 7, 6, 34}, 0, 3},
		{23, 5, "XMSS-SHA2_10_512", 132, 0, 0, 9092, []uint32{1, 3, 6, 1, 5, 5, 7, 6, 34}, 0, 4},
		{24, 5, "XMSS-SHA2_16_512", 132, 0, 0, 9476, []uint32{1, 3, 6, 1, 5, 5, 7, 6, 34}, 0, 5},
		{25, 5, "XMSS-SHA2_20_512", 132, 0, 0, 9732, []uint32{1, 3, 6, 1, 5, 5, 7, 6, 34}, 0, 6},
	}
}

// same reports whether two rows have the same columns.
func same(a, b params.Set) bool {
	return a.Alg == b.Alg && a.Family == b.Family && a.Name == b.Name &&
		a.Public == b.Public && a.Private == b.Private && a.Seed == b.Seed && a.Signature == b.Signature &&
		slices.Equal(a.OID, b.OID) && a.COSE == b.COSE && a.Type == b.Type
}

// check checks a result: it is the row wanted and true, or, if none is wanted, a
// zero Set and false.
func check(t *testing.T, of any, got params.Set, ok bool, want *params.Set) {
	t.Helper()
	switch {
	case want == nil && (ok || !same(got, params.Set{})):
		t.Errorf("%v: %+v, %v, want none", of, got, ok)
	case want != nil && (!ok || !same(got, *want)):
		t.Errorf("%v: %+v, %v, want %+v", of, got, ok, *want)
	}
}

// find returns the first one of some rows with a property, or nil.
func find(rows []params.Set, has func(x params.Set) bool) *params.Set {
	if i := slices.IndexFunc(rows, has); i >= 0 {
		return &rows[i]
	}
	return nil
}

// judgeAlg, judgeName, judgeCOSE and judgeType compare a result with the table.
func judgeAlg(t *testing.T, rows []params.Set, alg int) {
	t.Helper()
	got, ok := params.Get(alg)
	check(t, alg, got, ok, find(rows, func(x params.Set) bool { return x.Alg == alg }))
}

func judgeName(t *testing.T, rows []params.Set, name string) {
	t.Helper()
	got, ok := params.ByName(name)
	check(t, name[:min(len(name), 60)], got, ok, find(rows, func(x params.Set) bool { return x.Name == name }))
}

func judgeCOSE(t *testing.T, rows []params.Set, n int64) {
	t.Helper()
	got, ok := params.ByCOSE(n)
	check(t, n, got, ok, find(rows, func(x params.Set) bool { return n != 0 && x.COSE == n }))
}

func judgeType(t *testing.T, rows []params.Set, code uint32) {
	t.Helper()
	got, ok := params.ByType(code)
	check(t, code, got, ok, find(rows, func(x params.Set) bool { return code != 0 && x.Type == code }))
}

// judgeOID and judgeSize compare a result with the table, whose rows are in
// ascending order.
func judgeOID(t *testing.T, rows []params.Set, l []uint32) {
	t.Helper()
	var want []int
	for _, x := range rows {
		if slices.Equal(x.OID, l) {
			want = append(want, x.Alg)
		}
	}
	if got := params.ByOID(l); !slices.Equal(got, want) {
		t.Errorf("ByOID of %d numbers %v: %v, want %v", len(l), l[:min(len(l), 30)], got, want)
	}
}

func judgeSize(t *testing.T, rows []params.Set, family, signature int) {
	t.Helper()
	var want []int
	for _, x := range rows {
		if x.Family == family && x.Signature == signature && signature != 0 {
			want = append(want, x.Alg)
		}
	}
	if got := params.BySize(family, signature); !slices.Equal(got, want) {
		t.Errorf("BySize(%d, %d): %v, want %v", family, signature, got, want)
	}
}

// P13.1

func TestRows(t *testing.T) {
	for i, want := range table() {
		if want.Alg != i+1 {
			t.Fatalf("the row %d has the number %d", i, want.Alg)
		}
		got, ok := params.Get(want.Alg)
		check(t, want.Alg, got, ok, &want)
		if !oid.Valid(got.OID) {
			t.Errorf("%d: %v is no identifier", want.Alg, got.OID)
		}
	}
}

// The same as texts, which are what the chapter has.
func TestTextsOfIdentifiers(t *testing.T) {
	for alg, want := range map[int]string{
		1: "2.16.840.1.101.3.4.4.1", 2: "2.16.840.1.101.3.4.4.2", 3: "2.16.840.1.101.3.4.4.3",
		4: "2.16.840.1.101.3.4.3.17", 5: "2.16.840.1.101.3.4.3.18", 6: "2.16.840.1.101.3.4.3.19",
		7: "2.16.840.1.101.3.4.3.20", 12: "2.16.840.1.101.3.4.3.25", 13: "2.16.840.1.101.3.4.3.26", 18: "2.16.840.1.101.3.4.3.31",
		19: "1.2.840.113549.1.9.16.3.17", 20: "1.3.6.1.5.5.7.6.34", 25: "1.3.6.1.5.5.7.6.34",
	} {
		if got, _ := params.Get(alg); oid.Text(got.OID) != want {
			t.Errorf("%d: %q, want %q", alg, oid.Text(got.OID), want)
		}
	}
}

func TestExample(t *testing.T) {
	got, ok := params.Get(5)
	if !ok || got.Name != "ML-DSA-65" || got.Public != 1952 || got.Private != 4032 || got.Seed != 32 || got.Signature != 3309 {
		t.Errorf("%+v, %v", got, ok)
	}
}

func TestFamilies(t *testing.T) {
	for i, family := range []int{params.KEM, params.DSA, params.SLH, params.HSS, params.XMSS} {
		if family != i+1 {
			t.Errorf("the family %d has the number %d", i+1, family)
		}
	}
	for alg := 1; alg <= 25; alg++ {
		want := params.XMSS
		switch {
		case alg <= 3:
			want = params.KEM
		case alg <= 6:
			want = params.DSA
		case alg <= 18:
			want = params.SLH
		case alg == 19:
			want = params.HSS
		}
		if got, _ := params.Get(alg); got.Family != want {
			t.Errorf("%d: the family %d, want %d", alg, got.Family, want)
		}
	}
}

func TestNumbersOfApi(t *testing.T) {
	for alg, name := range map[int]string{
		api.KEM512: "ML-KEM-512", api.KEM768: "ML-KEM-768", api.KEM1024: "ML-KEM-1024",
		api.DSA44: "ML-DSA-44", api.DSA65: "ML-DSA-65", api.DSA87: "ML-DSA-87",
		api.SLHSHA2: "SLH-DSA-SHA2-128s", api.SLHSHAK: "SLH-DSA-SHAKE-128s",
		api.HSS: "HSS/LMS", api.XMSS: "XMSS-SHA2_10_256", api.LastAlg: "XMSS-SHA2_20_512",
	} {
		if got, ok := params.Get(alg); got.Name != name || !ok {
			t.Errorf("%d: %q, want %q", alg, got.Name, name)
		}
	}
	if _, ok := params.Get(api.LastAlg + 1); ok {
		t.Error("there is a row after the last one")
	}
}

// What the chapter says of many rows at once.
func TestColumns(t *testing.T) {
	for alg := 1; alg <= 25; alg++ {
		s, _ := params.Get(alg)
		if alg >= 7 && alg <= 18 && s.Private != 2*s.Public {
			t.Errorf("%s: %d is not twice %d", s.Name, s.Private, s.Public)
		}
		if (s.Seed != 0) != (alg <= 6) || (s.Private != 0) != (alg <= 18) || (s.Public != 0) != (alg != 19) {
			t.Errorf("%s: the sizes %d, %d and %d", s.Name, s.Public, s.Private, s.Seed)
		}
		if (s.Signature != 0) != (alg >= 4 && alg != 19) || (s.COSE != 0) != (alg <= 18) || (s.Type != 0) != (alg >= 20) {
			t.Errorf("%s: %d, %d and %d", s.Name, s.Signature, s.COSE, s.Type)
		}
	}
	for at := range 6 {
		a, _ := params.Get(7 + at)
		b, _ := params.Get(13 + at)
		if a.Public != b.Public || a.Private != b.Private || a.Seed != b.Seed || a.Signature != b.Signature || strings.Replace(a.Name, "SHA2", "SHAKE", 1) != b.Name {
			t.Errorf("%+v and %+v", a, b)
		}
	}
}

func TestOtherAlgorithms(t *testing.T) {
	rows := table()
	for _, alg := range []int{0, -1, 26, 27, 31, 32, 33, math.MaxInt, math.MinInt, math.MaxInt - 1, math.MinInt + 1, math.MaxInt32, math.MinInt32} {
		got, ok := params.Get(alg)
		check(t, alg, got, ok, nil)
	}
	for alg := -1000; alg <= 1000; alg++ {
		judgeAlg(t, rows, alg)
		judgeAlg(t, rows, math.MinInt+1000+alg)
		judgeAlg(t, rows, math.MaxInt-1000+alg)
		for shift := 5; shift < 63; shift++ {
			judgeAlg(t, rows, alg+1<<shift)
			judgeAlg(t, rows, alg-1<<shift)
		}
	}
}

// P13.2: names

func TestNames(t *testing.T) {
	for _, want := range table() {
		got, ok := params.ByName(want.Name)
		check(t, want.Name, got, ok, &want)
	}
}

// changes calls f with the beginnings and ends of s, and with all strings that
// differ from s in one byte that is changed, taken out or put in.
func changes(s string, f func(s string)) {
	for at := range len(s) + 1 {
		f(s[:at])
		f(s[at:])
		for c := range 256 {
			f(s[:at] + string([]byte{byte(c)}) + s[at:])
			if at < len(s) {
				f(s[:at] + string([]byte{byte(c)}) + s[at+1:])
			}
		}
		if at < len(s) {
			f(s[:at] + s[at+1:])
			f(s[:at] + s[at:at+1] + s[at:])
		}
	}
}

func TestChangedNames(t *testing.T) {
	rows := table()
	for _, x := range rows {
		changes(x.Name, func(s string) { judgeName(t, rows, s) })
	}
}

func TestNamesInOtherCases(t *testing.T) {
	rows := table()
	for _, x := range rows {
		for _, s := range []string{strings.ToLower(x.Name), strings.ToUpper(x.Name), strings.ToLower(x.Name[:1]) + x.Name[1:], strings.ToLower(x.Name[:3]) + x.Name[3:]} {
			judgeName(t, rows, s)
		}
	}
	for _, s := range []string{"ml-kem-512", "Ml-Kem-512", "ML-kem-512", "slh-dsa-sha2-128s", "SLH-DSA-SHA2-128S", "SLH-DSA-SHAKE-256F", "SLH-DSA-Shake-256f", "hss/lms", "Hss/Lms", "xmss-sha2_10_256", "XMSS-sha2_10_256"} {
		got, ok := params.ByName(s)
		check(t, s, got, ok, nil)
	}
}

func TestNamesOfNothing(t *testing.T) {
	for _, s := range []string{
		"", " ", "\x00", "-", "1", "512", "128s", "KEM", "DSA", "SLH", "HSS", "LMS", "XMSS", "ML-KEM", "ML-KEM-", "ML-DSA", "ML-DSA-", "SLH-DSA", "SLH-DSA-", "SLH-DSA-SHA2", "SLH-DSA-SHA2-", "SLH-DSA-SHAKE-", "HSS/", "/LMS", "LMS/HSS", "HSS-LMS", "HSS_LMS", "HSSLMS", "XMSS-", "XMSS-SHA2_", "XMSS-SHA2",
		"ML-KEM-44", "ML-KEM-65", "ML-KEM-256", "ML-KEM-0512", "ML-KEM-51", "ML-KEM-5120", "ML-KEM-102", "ML-KEM-2048", "ML-DSA-512", "ML-DSA-768", "ML-DSA-4", "ML-DSA-45", "ML-DSA-446", "ML-DSA-66", "ML-DSA-128s", "ML_KEM_512", "MLKEM512", "ML-KEM512", "ML KEM 512", "KEM-ML-512", "ML-KEM-512-", "-ML-KEM-512",
		"SLH-DSA-128s", "SLH-DSA-SHA2-128", "SLH-DSA-SHA2-s", "SLH-DSA-SHA2-512s", "SLH-DSA-SHA2-128sf", "SLH-DSA-SHA2-128fs", "SLH-DSA-SHAKE128s", "SLH-DSA-SHAKE-128", "SLH-DSA-SHA3-128s", "SLH-DSA-SHA2-SHAKE-128s", "SLH-DSA-SHA2_128s", "SLH-DSA-SHA2-10_256", "SPHINCS+-SHA2-128s", "-128f", "-256f",
		"XMSS-SHA2_5_256", "XMSS-SHA2_10_128", "XMSS-SHA2_10_192", "XMSS-SHA2_256_10", "XMSS-SHA2-10-256", "XMSS-SHAKE_10_256", "XMSS_SHA2_10_256", "XMSS-SHA2_10_1024", "XMSSMT-SHA2_20_256", "XMSS-SHA2_128s", "_16_256", "_20_512",
		"ML\u2010KEM\u2010512", "ML\u2011KEM\u2011512", "ML\u2212KEM\u2212512", "\u039cL-KEM-512", "\ufeffML-KEM-512", "ML-\u212aEM-512", "HSS\u2215LMS", "HSS\u017f/LMS", "ML-KEM-\uff15\uff11\uff12", "SLH-DSA-SHA2-128\u017f",
		"1.2.840.113549.1.9.16.3.17", "2.16.840.1.101.3.4.4.1", "-111", "0", "1", "19", "KEM 1", "HSS/LMS\n", "\nHSS/LMS", "\"HSS/LMS\"", " HSS/LMS", "HSS/LMS ", "HSS/LMS\x00",
	} {
		got, ok := params.ByName(s)
		check(t, s, got, ok, nil)
	}
}

func TestJoinedNames(t *testing.T) {
	rows := table()
	for _, x := range rows {
		for _, y := range rows {
			judgeName(t, rows, x.Name+y.Name)
			judgeName(t, rows, x.Name+"\x00"+y.Name)
			judgeName(t, rows, x.Name+","+y.Name)
			// A beginning of one and an end of the other.
			for at := range min(len(x.Name), len(y.Name)) {
				judgeName(t, rows, x.Name[:at]+y.Name[at:])
				judgeName(t, rows, x.Name[:len(x.Name)-at]+y.Name[len(y.Name)-at:])
			}
		}
		judgeName(t, rows, strings.Repeat(x.Name, 1<<15))
		judgeName(t, rows, x.Name+strings.Repeat("\x00", 1<<20))
		judgeName(t, rows, strings.Repeat(" ", 1<<20)+x.Name)
	}
}

// P13.2: numbers of COSE

func TestNumbersOfCOSE(t *testing.T) {
	for _, want := range table() {
		if want.COSE != 0 {
			got, ok := params.ByCOSE(want.COSE)
			check(t, want.COSE, got, ok, &want)
		}
	}
}

func TestOtherNumbersOfCOSE(t *testing.T) {
	rows := table()
	for _, n := range []int64{0, 1, -1, 48, 62, 111, 113, -47, -63, -110, -114, 47, 63, 110, 114, 50, 56, -80, math.MaxInt64, math.MinInt64, math.MaxInt64 - 110, math.MinInt64 + 111} {
		got, ok := params.ByCOSE(n)
		check(t, n, got, ok, nil)
	}
	for n := int64(-1000); n <= 1000; n++ {
		judgeCOSE(t, rows, n)
		judgeCOSE(t, rows, math.MaxInt64-1000+n)
		judgeCOSE(t, rows, math.MinInt64+1000+n)
	}
	for n := int64(-130); n <= 130; n++ {
		for shift := 7; shift < 63; shift++ {
			judgeCOSE(t, rows, n+1<<shift)
			judgeCOSE(t, rows, n-1<<shift)
		}
	}
}

// P13.2: typecodes

func TestTypecodes(t *testing.T) {
	for _, want := range table() {
		if want.Type != 0 {
			got, ok := params.ByType(want.Type)
			check(t, want.Type, got, ok, &want)
		}
	}
}

func TestOtherTypecodes(t *testing.T) {
	rows := table()
	for _, code := range []uint32{0, 7, 8, 9, 10, 20, 25, 34, 1 << 8, 1<<8 + 1, 1<<16 + 1, 1 << 24, 1 << 31, math.MaxInt32, math.MaxUint32, math.MaxUint32 - 5} {
		got, ok := params.ByType(code)
		check(t, code, got, ok, nil)
	}
	for code := range uint32(1000) {
		judgeType(t, rows, code)
		judgeType(t, rows, math.MaxUint32-code)
		judgeType(t, rows, code<<24)
		for shift := 3; shift < 32; shift++ {
			judgeType(t, rows, code+1<<shift)
		}
	}
}

// P13.3: object identifiers

func TestIdentifiers(t *testing.T) {
	for text, want := range map[string][]int{
		"2.16.840.1.101.3.4.4.1": {1}, "2.16.840.1.101.3.4.4.2": {2}, "2.16.840.1.101.3.4.4.3": {3},
		"2.16.840.1.101.3.4.3.17": {4}, "2.16.840.1.101.3.4.3.18": {5}, "2.16.840.1.101.3.4.3.19": {6},
		"2.16.840.1.101.3.4.3.20": {7}, "2.16.840.1.101.3.4.3.21": {8}, "2.16.840.1.101.3.4.3.22": {9}, "2.16.840.1.101.3.4.3.23": {10}, "2.16.840.1.101.3.4.3.24": {11}, "2.16.840.1.101.3.4.3.25": {12},
		"2.16.840.1.101.3.4.3.26": {13}, "2.16.840.1.101.3.4.3.27": {14}, "2.16.840.1.101.3.4.3.28": {15}, "2.16.840.1.101.3.4.3.29": {16}, "2.16.840.1.101.3.4.3.30": {17}, "2.16.840.1.101.3.4.3.31": {18},
		"1.2.840.113549.1.9.16.3.17": {19}, "1.3.6.1.5.5.7.6.34": {20, 21, 22, 23, 24, 25},
		"2.16.840.1.101.3.4.4.0": nil, "2.16.840.1.101.3.4.4.4": nil, "2.16.840.1.101.3.4.4.17": nil, "2.16.840.1.101.3.4.3.16": nil, "2.16.840.1.101.3.4.3.32": nil, "2.16.840.1.101.3.4.3.1": nil,
		"1.3.6.1.5.5.7.6.33": nil, "1.3.6.1.5.5.7.6.35": nil, "1.2.840.113549.1.9.16.3.16": nil, "1.2.840.113549.1.9.16.3.18": nil, "2.16.840.1.101.3.4.2.8": nil, "1.2.840.113549.1.1.1": nil, "1.2.840.10045.2.1": nil,
		"2.16.840.1.101.3.4.3": nil, "2.16.840.1.101.3.4.4": nil, "2.16.840.1.101.3.4.4.1.1": nil, "2.16.840.1.101.3.4.4.1.0": nil, "1.3.6.1.5.5.7.6": nil, "1.3.6.1.5.5.7.6.34.1": nil,
	} {
		l, ok := oid.Parse(text)
		if got := params.ByOID(l); !slices.Equal(got, want) || !ok {
			t.Errorf("%s: %v, want %v", text, got, want)
		}
	}
}

func TestIdentifiersOfRows(t *testing.T) {
	rows := table()
	for _, x := range rows {
		judgeOID(t, rows, x.OID)
		s, _ := params.Get(x.Alg)
		if got := params.ByOID(s.OID); !slices.Contains(got, x.Alg) {
			t.Errorf("ByOID(%v): %v, want %d among them", s.OID, got, x.Alg)
		}
	}
}

func TestChangedIdentifiers(t *testing.T) {
	rows := table()
	for _, x := range rows {
		for at := range len(x.OID) + 1 {
			judgeOID(t, rows, x.OID[:at])
			judgeOID(t, rows, x.OID[at:])
			for _, n := range []uint32{0, 1, 2, 3, 4, 17, 34, math.MaxUint32} {
				judgeOID(t, rows, slices.Insert(slices.Clone(x.OID), at, n))
			}
			if at == len(x.OID) {
				break
			}
			judgeOID(t, rows, slices.Delete(slices.Clone(x.OID), at, at+1))
			judgeOID(t, rows, slices.Insert(slices.Clone(x.OID), at, x.OID[at]))
			l := slices.Clone(x.OID)
			for n := range uint32(300) {
				l[at] = n
				judgeOID(t, rows, l)
				l[at] = x.OID[at] + n
				judgeOID(t, rows, l)
				l[at] = x.OID[at] - n
				judgeOID(t, rows, l)
			}
			for bit := range 32 {
				l[at] = x.OID[at] ^ 1<<bit
				judgeOID(t, rows, l)
			}
		}
	}
}

func TestOtherIdentifiers(t *testing.T) {
	rows := table()
	lists := [][]uint32{
		nil, {}, {0}, {1}, {2}, {3}, {1, 2}, {2, 5}, {2, 16}, {0, 0}, {1, 40}, {3, 0}, {2, math.MaxUint32}, {math.MaxUint32},
		{34}, {17, 3, 16, 9, 1, 113549, 840, 2, 1}, {34, 6, 7, 5, 5, 1, 6, 3, 1}, make([]uint32, 9), make([]uint32, 20), make([]uint32, 21), make([]uint32, 1<<16), make([]uint32, 1<<20),
	}
	for _, l := range lists {
		if got := params.ByOID(l); len(got) != 0 {
			t.Errorf("ByOID of %d numbers: %v", len(l), got)
		}
	}
	for _, x := range rows {
		reversed := slices.Clone(x.OID)
		slices.Reverse(reversed)
		judgeOID(t, rows, reversed)
		for length := len(x.OID) + 1; length < 30; length++ {
			l := slices.Grow(slices.Clone(x.OID), 30)
			judgeOID(t, rows, l[:length])
		}
		for _, y := range rows {
			judgeOID(t, rows, slices.Concat(x.OID, y.OID))
			judgeOID(t, rows, slices.Concat(x.OID[:8], y.OID[8:]))
			judgeOID(t, rows, slices.Concat(x.OID[:2], y.OID[2:]))
		}
	}
}

// The order is the same in each call.
func TestOrderOfAlgorithms(t *testing.T) {
	for range 3 {
		if got := params.ByOID([]uint32{1, 3, 6, 1, 5, 5, 7, 6, 34}); !slices.Equal(got, []int{20, 21, 22, 23, 24, 25}) {
			t.Errorf("XMSS: %v", got)
		}
		if got := params.BySize(params.SLH, 49856); !slices.Equal(got, []int{12, 18}) {
			t.Errorf("SLH: %v", got)
		}
	}
}

// P13.3: sizes of signatures

// sizes are those of the table, with their algorithms.
var sizes = []struct {
	family, signature int
	want              []int
}{
	{params.DSA, 2420, []int{4}}, {params.DSA, 3309, []int{5}}, {params.DSA, 4627, []int{6}},
	{params.SLH, 7856, []int{7, 13}}, {params.SLH, 17088, []int{8, 14}}, {params.SLH, 16224, []int{9, 15}}, {params.SLH, 35664, []int{10, 16}}, {params.SLH, 29792, []int{11, 17}}, {params.SLH, 49856, []int{12, 18}},
	{params.XMSS, 2500, []int{20}}, {params.XMSS, 2692, []int{21}}, {params.XMSS, 2820, []int{22}}, {params.XMSS, 9092, []int{23}}, {params.XMSS, 9476, []int{24}}, {params.XMSS, 9732, []int{25}},
}

// families are all of them, and numbers of none.
var families = []int{1, 2, 3, 4, 5, 0, 6, 7, 9, -1, -2, -3, -5, 1<<8 + 2, 1<<16 + 3, 1<<32 + 5, 1<<32 + 2, -1<<32 + 3, math.MaxInt, math.MinInt, math.MinInt + 2}

func TestSizes(t *testing.T) {
	for _, x := range sizes {
		for _, family := range families {
			var want []int
			if family == x.family {
				want = x.want
			}
			if got := params.BySize(family, x.signature); !slices.Equal(got, want) {
				t.Errorf("BySize(%d, %d): %v, want %v", family, x.signature, got, want)
			}
		}
	}
}

func TestNoSize(t *testing.T) {
	for _, family := range families {
		if got := params.BySize(family, 0); len(got) != 0 {
			t.Errorf("BySize(%d, 0): %v", family, got)
		}
	}
}

func TestOtherSizes(t *testing.T) {
	rows := table()
	values := []int{1, -1, 2, 3, math.MaxInt, math.MinInt, math.MaxInt32, math.MinInt32}
	for _, x := range rows {
		values = append(values, x.Public, x.Private, x.Seed, x.Signature+1, x.Signature-1, -x.Signature, x.Signature*2, x.Signature/2, x.Signature+32, x.Signature-32)
		for shift := 8; shift < 63; shift++ {
			values = append(values, x.Signature+1<<shift, x.Signature-1<<shift)
		}
	}
	for _, n := range values {
		for _, family := range families {
			judgeSize(t, rows, family, n)
		}
	}
}

func TestEachSize(t *testing.T) {
	want := map[[2]int][]int{}
	for _, x := range sizes {
		want[[2]int{x.family, x.signature}] = x.want
	}
	for family := 0; family <= 6; family++ {
		for signature := -10; signature <= 50000; signature++ {
			if got := params.BySize(family, signature); !slices.Equal(got, want[[2]int{family, signature}]) {
				t.Errorf("BySize(%d, %d): %v", family, signature, got)
			}
		}
	}
}

// P13.4

func TestDifferentRows(t *testing.T) {
	names, numbers, codes := map[string]bool{}, map[int64]bool{}, map[uint32]bool{}
	for alg := 1; alg <= 25; alg++ {
		s, _ := params.Get(alg)
		names[s.Name] = true
		if s.COSE != 0 {
			numbers[s.COSE] = true
		}
		if s.Type != 0 {
			codes[s.Type] = true
		}
	}
	if len(names) != 25 || len(numbers) != 18 || len(codes) != 6 || names[""] {
		t.Errorf("%d names, %d numbers of COSE, %d typecodes", len(names), len(numbers), len(codes))
	}
}

func TestRowsAndBack(t *testing.T) {
	for alg := 1; alg <= 25; alg++ {
		s, _ := params.Get(alg)
		got, ok := params.ByName(s.Name)
		check(t, s.Name, got, ok, &s)
		if s.COSE != 0 {
			got, ok = params.ByCOSE(s.COSE)
			check(t, s.COSE, got, ok, &s)
		}
		if s.Type != 0 {
			got, ok = params.ByType(s.Type)
			check(t, s.Type, got, ok, &s)
		}
	}
}

// Rules 3 to 8

// byEach returns a row by all functions that find it.
func byEach(x params.Set) []params.Set {
	a, _ := params.Get(x.Alg)
	b, _ := params.ByName(x.Name)
	rows := []params.Set{a, b}
	if x.COSE != 0 {
		c, _ := params.ByCOSE(x.COSE)
		rows = append(rows, c)
	}
	if x.Type != 0 {
		c, _ := params.ByType(x.Type)
		rows = append(rows, c)
	}
	return rows
}

// spoil changes all of a slice and its unused capacity.
func spoil[E int | uint32](l []E) {
	for i := range l[:cap(l)] {
		l[:cap(l)][i] ^= 1
	}
}

// judgeAll compares all that finds the rows of the table with it.
func judgeAll(t *testing.T) {
	t.Helper()
	rows := table()
	for _, x := range rows {
		judgeAlg(t, rows, x.Alg)
		judgeName(t, rows, x.Name)
		judgeCOSE(t, rows, x.COSE)
		judgeType(t, rows, x.Type)
		judgeOID(t, rows, x.OID)
		judgeSize(t, rows, x.Family, x.Signature)
	}
}

func TestChangedResults(t *testing.T) {
	for _, x := range table() {
		for i := range byEach(x) {
			others, got := byEach(x), byEach(x)[i]
			spoil(got.OID)
			got.OID[0] = 7
			for _, other := range append(others, byEach(x)...) {
				check(t, x.Alg, other, true, &x)
			}
			judgeAll(t)
		}
	}
}

// What is appended to one result is in no other one.
func TestAppendedResults(t *testing.T) {
	for _, x := range table() {
		for i := range byEach(x) {
			a, b := byEach(x)[i].OID, byEach(x)[i].OID
			a, b = append(a, 1), append(b, 2)
			if a[len(a)-1] != 1 || b[len(b)-1] != 2 || !slices.Equal(a[:len(a)-1], x.OID) || !slices.Equal(b[:len(b)-1], x.OID) {
				t.Errorf("%d: %v and %v", x.Alg, a, b)
			}
		}
	}
	judgeAll(t)
}

// All rows are kept while each of them is changed: the ones of XMSS share no
// memory either.
func TestRowsShareNothing(t *testing.T) {
	want := table()
	for changed := range want {
		var rows []params.Set
		for alg := 1; alg <= 25; alg++ {
			s, _ := params.Get(alg)
			rows = append(rows, s)
		}
		spoil(rows[changed].OID)
		for i, s := range rows {
			if i != changed {
				check(t, s.Alg, s, true, &want[i])
			}
		}
	}
}

func TestListsShareNothing(t *testing.T) {
	for _, x := range table() {
		want := params.ByOID(x.OID)
		kept, a, b := slices.Clone(want), params.ByOID(x.OID), params.ByOID(x.OID)
		spoil(a)
		a, b = append(a, 1), append(b, 2)
		if a[len(a)-1] != 1 || !slices.Equal(b, append(slices.Clone(kept), 2)) || !slices.Equal(want, kept) {
			t.Errorf("%v: %v, %v, %v", x.OID, want, a, b)
		}
	}
	for _, x := range sizes {
		a, b := params.BySize(x.family, x.signature), params.BySize(x.family, x.signature)
		spoil(a)
		a, b = append(a, 1), append(b, 2)
		if a[len(a)-1] != 1 || !slices.Equal(b, append(slices.Clone(x.want), 2)) {
			t.Errorf("%d, %d: %v, %v", x.family, x.signature, a, b)
		}
	}
	judgeAll(t)
}

func TestArgumentsAreNotChanged(t *testing.T) {
	rows := table()
	for _, x := range append(table(), params.Set{OID: []uint32{2, 5}}, params.Set{OID: []uint32{3, 1, 2}}, params.Set{OID: make([]uint32, 25)}) {
		room := append(slices.Clone(x.OID), 1, 34, 9)
		before := slices.Clone(room)
		l := room[:len(x.OID)]
		got := params.ByOID(l)
		spoil(got)
		judgeOID(t, rows, l)
		if !slices.Equal(room, before) {
			t.Errorf("%v has become %v", before, room)
		}
		// Nor is it kept.
		kept := params.ByOID(l)
		spoil(room)
		if want := params.ByOID(x.OID); !slices.Equal(kept, want) {
			t.Errorf("%v: %v, then %v", x.OID, kept, want)
		}
	}
	judgeAll(t)
}

// What lies behind a list, in its capacity, is no part of it.
func TestUnusedCapacity(t *testing.T) {
	for _, x := range table() {
		if got := params.ByOID(slices.Clone(x.OID)[:8]); len(got) != 0 {
			t.Errorf("ByOID(%v): %v", x.OID[:8], got)
		}
		if got := params.ByOID(slices.Clone(x.OID)[:0]); len(got) != 0 {
			t.Errorf("ByOID of nothing: %v", got)
		}
		if got := params.ByOID(append(slices.Clone(x.OID), 1)[:9]); !slices.Contains(got, x.Alg) {
			t.Errorf("ByOID(%v): %v", x.OID, got)
		}
	}
}

func TestAnswersStayTheSame(t *testing.T) {
	for range 3 {
		judgeAll(t)
		for _, alg := range []int{0, -1, 26} {
			judgeAlg(t, nil, alg)
		}
		judgeName(t, nil, "")
		judgeName(t, nil, "ML-KEM-513")
		judgeCOSE(t, nil, -63)
		judgeType(t, nil, 7)
		judgeOID(t, nil, []uint32{2, 5})
		judgeSize(t, nil, params.KEM, 0)
	}
}

func TestConcurrentCalls(t *testing.T) {
	var all sync.WaitGroup
	for range 8 {
		all.Go(func() {
			for range 20 {
				for _, x := range table() {
					for _, s := range byEach(x) {
						spoil(s.OID)
					}
					spoil(params.ByOID(x.OID))
					spoil(params.BySize(x.Family, x.Signature))
				}
				judgeAll(t)
			}
		})
	}
	all.Wait()
}
