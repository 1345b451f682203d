package json_test

import (
	"bytes"
	"regexp"
	"slices"
	"strconv"
	"strings"
	"testing"

	"pyx/api"
	"pyx/json"
)

func pair(name, value string) json.Pair { return json.Pair{Name: name, Value: value} }

// list returns the pairs of names and values in turn.
func list(words ...string) []json.Pair {
	var l []json.Pair
	for i := 0; i < len(words); i += 2 {
		l = append(l, pair(words[i], words[i+1]))
	}
	return l
}

// name returns the name number i of 26^3 in ascending order.
func name(i int) string {
	return string([]byte{byte('a' + i/676%26), byte('a' + i/26%26), byte('a' + i%26)})
}

// counted returns n pairs in order.
func counted(n int) []json.Pair {
	var l []json.Pair
	for i := range n {
		l = append(l, pair(name(i), strconv.Itoa(i)))
	}
	return l
}

// encoded writes any pairs as an encoding is written.
func encoded(l []json.Pair) string {
	var parts []string
	for _, p := range l {
		parts = append(parts, "\""+p.Name+"\":\""+p.Value+"\"")
	}
	return "{" + strings.Join(parts, ",") + "}"
}

// short is for messages.
func short(s string) string {
	if len(s) > 60 {
		return strconv.Quote(s[:30]) + " .. " + strconv.Quote(s[len(s)-30:]) + " of " + strconv.Itoa(len(s)) + " bytes"
	}
	return strconv.Quote(s)
}

// good checks that a list is an object with an encoding.
func good(t *testing.T, l []json.Pair) {
	t.Helper()
	want := encoded(l)
	if !json.Valid(l) {
		t.Errorf("%s is not valid", short(want))
	}
	if got, err := json.Encode(l); string(got) != want || err != nil {
		t.Errorf("Encode: %s, %v, want %s", short(string(got)), err, short(want))
	}
	if got, err := json.Parse([]byte(want)); !slices.Equal(got, l) || err != nil {
		t.Errorf("Parse(%s): %s, %v", short(want), short(encoded(got)), err)
	}
}

// invalid checks that a list has no encoding.
func invalid(t *testing.T, l []json.Pair) {
	t.Helper()
	if json.Valid(l) {
		t.Errorf("%s is valid", short(encoded(l)))
	}
	if got, err := json.Encode(l); len(got) != 0 || err != error(api.BadObject) {
		t.Errorf("Encode of %s: %s, %#v", short(encoded(l)), short(string(got)), err)
	}
}

// bad checks the error of a string.
func bad(t *testing.T, s string, code api.Code, at int) {
	t.Helper()
	want := api.Fault{Code: code, At: at}
	if got, err := json.Parse([]byte(s)); len(got) != 0 || err != error(want) {
		t.Errorf("Parse(%s): %s, %#v, want %#v", short(s), short(encoded(got)), err, want)
	}
}

// loose matches the encodings of objects of any number of pairs, with names of
// any length and in any order; word matches a pair of those.
var (
	loose = regexp.MustCompile(`^\{("[a-z]+":"[ !#-\[\]-~]*"(,"[a-z]+":"[ !#-\[\]-~]*")*)?\}$`)
	word  = regexp.MustCompile(`"([a-z]+)":"([^"]*)"`)
)

// oracle answers as Parse, for strings that are far from MaxInput.
type oracle struct {
	begins map[string]bool
}

// begin reports whether a loose encoding begins with s. If one does, so does one
// in which the pair that s ends in has, from there on, as few bytes as possible
// and is the last one.
func (o oracle) begin(s string) bool {
	known, ok := o.begins[s]
	if !ok {
		for _, end := range []string{"{}", "}", `"a":""}`, `a":""}`, `":""}`, `:""}`, `""}`, `"}`, ""} {
			known = known || loose.MatchString(s+end)
		}
		o.begins[s] = known
	}
	return known
}

// parse returns the object and a zero Fault, or nothing and the Fault.
func (o oracle) parse(s string) ([]json.Pair, api.Fault) {
	k := 0
	for k < len(s) && o.begin(s[:k+1]) {
		k++
	}
	switch {
	case k < len(s) && !loose.MatchString(s[:k]):
		return nil, api.Fault{Code: api.Syntax, At: k}
	case k < len(s):
		return nil, api.Fault{Code: api.Trailing, At: k}
	case !loose.MatchString(s):
		return nil, api.Fault{Code: api.Truncated, At: k}
	}
	var l []json.Pair
	found := word.FindAllStringSubmatchIndex(s, -1)
	for _, m := range found {
		l = append(l, pair(s[m[2]:m[3]], s[m[4]:m[5]]))
	}
	for i, p := range l {
		if len(p.Name) > 20 {
			return nil, api.Fault{Code: api.Syntax, At: found[i][2]}
		}
	}
	for i := range l {
		if i > 0 && l[i].Name <= l[i-1].Name {
			return nil, api.Fault{Code: api.Order, At: found[i][2]}
		}
	}
	if len(l) > 20 {
		return nil, api.Fault{Code: api.Syntax, At: found[20][2]}
	}
	return l, api.Fault{}
}

// check compares Parse with the oracle, and what Parse accepts with Encode.
func (o oracle) check(t *testing.T, s string) {
	t.Helper()
	want, fault := o.parse(s)
	if fault.Code != 0 {
		bad(t, s, fault.Code, fault.At)
		return
	}
	if encoded(want) != s {
		t.Fatalf("the oracle reads %s as %s", short(s), short(encoded(want)))
	}
	good(t, want)
}

func newOracle() oracle { return oracle{begins: map[string]bool{}} }

// TestCounts is for P11.1 and P11.2: at most 20 pairs.
func TestCounts(t *testing.T) {
	for n := range 21 {
		good(t, counted(n))
	}
	for _, n := range []int{21, 22, 40, 41, 1000, 17576} {
		l := counted(n)
		invalid(t, l)
		at := len(encoded(l[:20])) - len("}") + len(`,"`)
		bad(t, encoded(l), api.Syntax, at)
	}
	good(t, nil)
	good(t, []json.Pair{})
	bad(t, "", api.Truncated, 0)
	if l, err := json.Parse(nil); len(l) != 0 || err != error(api.Fault{Code: api.Truncated}) {
		t.Error(l, err)
	}
}

// TestNames is for P11.1: names have 1 to 20 letters.
func TestNames(t *testing.T) {
	for size := 1; size <= 20; size++ {
		good(t, list(strings.Repeat("q", size), "x"))
		for at := range size {
			for c := range 256 {
				b := bytes.Repeat([]byte{'q'}, size)
				b[at] = byte(c)
				l := list("a", "x", string(b), "y")
				if c >= 'a' && c <= 'z' && string(b) != "a" {
					good(t, l)
				} else {
					invalid(t, l)
				}
			}
		}
	}
	for _, size := range []int{0, 21, 22, 40, 1000, api.MaxInput} {
		invalid(t, list(strings.Repeat("q", size), "x"))
		invalid(t, list("a", "", strings.Repeat("q", size), "x"))
		invalid(t, list(strings.Repeat("q", size), "x", "r", ""))
	}
	for _, s := range []string{"\u00e9", "\u0430", "a\u0301", "A", "Z", "`", "{", "\x80", "\xff", "a b", "a1", "a_", "a\x00"} {
		invalid(t, list(s, "x"))
	}
}

// TestNameStrings is for P11.2: where a name in a string ends or goes wrong.
func TestNameStrings(t *testing.T) {
	for size := range 24 {
		s := `{"` + strings.Repeat("q", size)
		bad(t, s, api.Truncated, len(s))
		for c := range 256 {
			wrong := s + string([]byte{byte(c)}) + `":"x"}`
			switch {
			case c >= 'a' && c <= 'z' && size < 20:
				good(t, list(s[2:]+string(rune(c)), "x"))
			case c >= 'a' && c <= 'z':
				bad(t, wrong, api.Syntax, 2)
			case c == '"' && size > 0:
				bad(t, wrong, api.Syntax, len(s)+1)
			default:
				bad(t, wrong, api.Syntax, len(s))
			}
		}
	}
}

// TestValues is for P11.1 and P11.2: which bytes a value has.
func TestValues(t *testing.T) {
	for size := range 6 {
		good(t, list("a", strings.Repeat("v", size)))
		for at := range size {
			for c := range 256 {
				b := bytes.Repeat([]byte{'v'}, size)
				b[at] = byte(c)
				l := list("a", "1", "b", string(b), "c", "")
				if c >= 32 && c <= 126 && c != '"' && c != '\\' {
					good(t, l)
					continue
				}
				invalid(t, l)
				wrong := len(`{"a":"1","b":"`) + at
				if c == '"' {
					wrong++
				}
				bad(t, encoded(l), api.Syntax, wrong)
			}
		}
	}
	good(t, list("a", `{}[]:,'/`, "b", " ", "c", "~"))
	good(t, list("a", `{a:x,b:y}`))
	for _, s := range []string{"\u00e9", "\u2028", "\x7f", "\x1f", "\x80", "\xff", "\n", `\n`, `\"`, `\u0041`, `"`, `\`} {
		invalid(t, list("a", s))
		invalid(t, list("a", "x"+s))
		invalid(t, list("a", s+"x"))
	}
}

// TestLongest is for P11.1 and P11.2: encodings of MaxInput bytes and more.
func TestLongest(t *testing.T) {
	fronts := [][]json.Pair{nil, counted(1), counted(2), counted(19)}
	for _, front := range fronts {
		l := append(front, pair("z", ""))
		room := api.MaxInput - len(encoded(l))
		for _, less := range []int{2, 1, 0} {
			l[len(l)-1].Value = strings.Repeat("v", room-less)
			good(t, l)
		}
		for _, more := range []int{1, 2, 100, api.MaxInput} {
			l[len(l)-1].Value = strings.Repeat("v", room+more)
			invalid(t, l)
			bad(t, encoded(l), api.TooLong, api.MaxInput)
		}
	}
	// The value may also be that of the first pair, or be shared.
	half := strings.Repeat("v", (api.MaxInput-15)/2)
	good(t, list("a", half+"v", "b", half))
	invalid(t, list("a", half+"v", "b", half+"v"))
	invalid(t, list("a", half+"vv", "b", half))
	good(t, list("a", strings.Repeat("v", api.MaxInput-15), "b", ""))
	invalid(t, list("a", strings.Repeat("v", api.MaxInput-14), "b", ""))
	invalid(t, list("a", strings.Repeat("v", api.MaxInput), "b", ""))
}

// TestTooLong is for P11.2: a string that is too long has no other error.
func TestTooLong(t *testing.T) {
	for _, s := range []string{"\x00", "{", "[", "{}", `{"`, `{"a":"x",`, `{"b":"","a":""}`, " "} {
		long := strings.Repeat(s, api.MaxInput/len(s)+2)
		bad(t, long[:api.MaxInput+1], api.TooLong, api.MaxInput)
		bad(t, long, api.TooLong, api.MaxInput)
	}
	bad(t, strings.Repeat("\x00", api.MaxInput), api.Syntax, 0)
	bad(t, strings.Repeat("{", api.MaxInput), api.Syntax, 1)
	bad(t, strings.Repeat("{}", api.MaxInput/2), api.Trailing, 2)
	bad(t, `{"`+strings.Repeat("a", api.MaxInput-7)+`":""}`, api.Syntax, 2)
}

// TestNearLongest is for P11.2: no encoding with more than MaxInput bytes counts
// for k. Each string is a front, many bytes v, and the beginning of an end; least
// has, for each beginning, how many bytes an encoding has at least after it.
func TestNearLongest(t *testing.T) {
	for _, x := range []struct {
		front, end string
		least      []int
	}{
		{`{"a":"`, `"}`, []int{2, 1, 0}},
		{`{"a":"`, `","bc":"xy"}`, []int{2, 1, 7, 6, 5, 5, 4, 3, 2, 2, 2, 1, 0}},
		{`{"a":"x","b":"`, `","a":"","a":""}`, []int{2, 1, 7, 6, 5, 4, 3, 2, 1, 7, 6, 5, 4, 3, 2, 1, 0}},
		{`{"`, `":""}`, []int{5, 4, 3, 2, 1, 0}},
		{`{"a":"","`, `":"x"}`, []int{5, 4, 3, 2, 2, 1, 0}},
	} {
		for n := range x.least {
			for room := range 9 {
				many := api.MaxInput - room - len(x.front) - n
				s := x.front + strings.Repeat("v", many) + x.end[:n]
				k := n
				for k >= 0 && len(s)-n+k+x.least[k] > api.MaxInput {
					k--
				}
				switch {
				case k < 0: // the limit lies among the bytes v
					bad(t, s, api.Syntax, api.MaxInput-x.least[0])
				case k < n:
					bad(t, s, api.Syntax, len(s)-n+k)
				case n < len(x.end):
					bad(t, s, api.Truncated, len(s))
				}
			}
		}
	}
	// A comma for which there is no room, though the string before it could end.
	many := "{" + strings.Repeat(`"a":"",`, api.MaxInput/7)
	bad(t, many+`"a"`, api.Syntax, len(many)-1)
	bad(t, many[:len(many)-1]+"}", api.Order, 9)
}

// TestForm is for P11.2: there is nothing between the parts, before or after them,
// and no part is missing.
func TestForm(t *testing.T) {
	for _, x := range []struct {
		s    string
		code api.Code
		at   int
	}{
		{"", api.Truncated, 0}, {"{", api.Truncated, 1}, {`{"a":"x"`, api.Truncated, 8},
		{"{,}", api.Syntax, 1}, {`{"a":"x",}`, api.Syntax, 9}, {`{,"a":"x"}`, api.Syntax, 1},
		{`{"a":"x",,"b":"y"}`, api.Syntax, 9}, {`{"a":"x""b":"y"}`, api.Syntax, 8}, {`{"a""x"}`, api.Syntax, 4},
		{`{"a"}`, api.Syntax, 4}, {`{"a":}`, api.Syntax, 5}, {`{"a",}`, api.Syntax, 4}, {`{a:"x"}`, api.Syntax, 1},
		{`{"a"::"x"}`, api.Syntax, 5}, {`{'a':'x'}`, api.Syntax, 1}, {`{"":"x"}`, api.Syntax, 2},
		{`{"a":x}`, api.Syntax, 5}, {`{"a":1}`, api.Syntax, 5}, {`{"a":null}`, api.Syntax, 5}, {`{"a":{}}`, api.Syntax, 5}, {`{"a":[]}`, api.Syntax, 5},
		{`["a":"x"]`, api.Syntax, 0}, {`{"a":"x"]`, api.Syntax, 8}, {`{"a":"x"};`, api.Trailing, 9}, {`"a"`, api.Syntax, 0}, {`"a":"x"`, api.Syntax, 0},
		{"}", api.Syntax, 0}, {"{{}}", api.Syntax, 1}, {"{}}", api.Trailing, 2}, {"{}{}", api.Trailing, 2}, {"{},", api.Trailing, 2}, {"{}\x00", api.Trailing, 2},
		{`{"a":"x"}{"b":"y"}`, api.Trailing, 9}, {`{"a":"x"},`, api.Trailing, 9}, {`{"a":"x","b":"y"`, api.Truncated, 16},
		{"\ufeff{}", api.Syntax, 0}, {"{\"a\":\"\u00e9\"}", api.Syntax, 6},
	} {
		bad(t, x.s, x.code, x.at)
	}
	whole := `{"a":"","b":"x"}`
	inValue := map[int]bool{6: true, 13: true, 14: true}
	for _, space := range []string{" ", "\n", "\t", "\r", "\r\n", "  ", "\x00", "/**/"} {
		for at := range len(whole) + 1 {
			s := whole[:at] + space + whole[at:]
			switch {
			case at == len(whole):
				bad(t, s, api.Trailing, at)
			case !inValue[at]:
				bad(t, s, api.Syntax, at)
			case space[0] < 32:
				bad(t, s, api.Syntax, at)
			default:
				newOracle().check(t, s)
			}
		}
	}
}

// TestOrder is for P11.1 and P11.2: names are strictly ascending.
func TestOrder(t *testing.T) {
	ascending := []string{"a", "aa", "aaa", "aab", "ab", "abc", "az", "b", "ba", "y", "ya", "z", "zz", "zzzzzzzzzzzzzzzzzzzz"}
	for i, first := range ascending {
		for j, second := range ascending {
			l := list(first, "x", second, "y")
			if i < j {
				good(t, l)
				continue
			}
			invalid(t, l)
			bad(t, encoded(l), api.Order, len(`{"":"x","`)+len(first))
		}
	}
	for n := 2; n <= 20; n++ {
		for i := 1; i < n; i++ {
			at := len(encoded(counted(i))) - len("}") + len(`,"`)
			l := counted(n)
			l[i].Name = l[i-1].Name
			invalid(t, l)
			bad(t, encoded(l), api.Order, at)
			l = counted(n)
			l[i].Name, l[i-1].Name = l[i-1].Name, l[i].Name
			invalid(t, l)
			bad(t, encoded(l), api.Order, at)
			// The same name again, though not side by side.
			if l = counted(n); i > 1 {
				l[i].Name = l[0].Name
				invalid(t, l)
				bad(t, encoded(l), api.Order, at)
			}
		}
	}
	good(t, list("alg", "x", "kty", "y", "pub", "z"))
	invalid(t, list("alg", "x", "pub", "z", "kty", "y"))
	good(t, list("a", "z", "b", "a")) // values are in any order
}

// TestWhichFirst is for P11.2: which of several errors is returned.
func TestWhichFirst(t *testing.T) {
	long := strings.Repeat("l", 21)
	at := func(l []json.Pair, i int) int { return len(encoded(l[:i])) - len("}") + min(i, 1) + len(`"`) }
	bothAt := func(s string, code api.Code, at int) {
		t.Helper()
		bad(t, s, code, at)
		// What is no encoding at all comes before each of them.
		for end := range len(s) {
			newOracle().check(t, s[:end])
			if end > 0 {
				bad(t, s[:end], api.Truncated, end)
			}
		}
		bad(t, s+"}", api.Trailing, len(s))
		bad(t, s+" ", api.Trailing, len(s))
		bad(t, s[:len(s)-1]+" }", api.Syntax, len(s)-1)
		bad(t, s[:len(s)-1]+",}", api.Syntax, len(s))
	}
	l := list("b", "", "a", "", long, "")
	bothAt(encoded(l), api.Syntax, at(l, 2))
	l = list("m", "", long, "", "a", "")
	bothAt(encoded(l), api.Syntax, at(l, 1))
	l = list(long, "", long+"a", "", "a", "")
	bothAt(encoded(l), api.Syntax, 2)
	l = list("c", "", "b", "", "a", "")
	bothAt(encoded(l), api.Order, at(l, 1))
	l = list("b", "", "c", "", "c", "", "a", "", "a", "")
	bothAt(encoded(l), api.Order, at(l, 2))
	for _, n := range []int{21, 22, 30} {
		bothAt(encoded(counted(n)), api.Syntax, at(counted(n), 20))
		for i := range n {
			l = counted(n)
			l[i].Name = long
			bad(t, encoded(l), api.Syntax, at(l, i))
			l[(i+5)%n].Name = long + "x"
			bad(t, encoded(l), api.Syntax, at(l, min(i, (i+5)%n)))
			l = counted(n)
			if i > 0 {
				l[i].Name = l[i-1].Name
				bad(t, encoded(l), api.Order, at(l, i))
				l[n-1].Name = long
				bad(t, encoded(l), api.Syntax, at(l, n-1))
			}
		}
	}
	// As many pairs as there is room for.
	l = counted(17576)
	bad(t, encoded(l), api.Syntax, at(l, 20))
	bad(t, encoded(l)+"}", api.Trailing, len(encoded(l)))
	bad(t, strings.TrimSuffix(encoded(l), "}"), api.Truncated, len(encoded(l))-1)
	l[17575].Name = "a"
	bad(t, encoded(l), api.Order, at(l, 17575))
	l[17575].Name = long
	bad(t, encoded(l), api.Syntax, at(l, 17575))
}

// TestAllShort is for P11.2 and P11.4: all strings of a few bytes, also after the
// beginnings of encodings.
func TestAllShort(t *testing.T) {
	o := newOracle()
	fronts := []string{"", "{", `{"`, `{"b`, `{"b"`, `{"b":`, `{"b":"`, `{"b":"x"`, `{"b":"x",`, `{"b":"x","`, `{"b":"x","b`, `{"b":"x","c":"`, `{"b":"x"}`}
	var grow func(s string, left int)
	grow = func(s string, left int) {
		o.check(t, s)
		if left == 0 || t.Failed() {
			return
		}
		for _, c := range []byte("{}\",:ab \n\\") {
			grow(s+string(rune(c)), left-1)
		}
	}
	for _, front := range fronts {
		grow(front, 4)
	}
}

// TestChanged is for P11.2 and P11.4: each beginning of encodings, and each string
// with one byte changed, more, or less.
func TestChanged(t *testing.T) {
	for _, l := range [][]json.Pair{
		nil, list("a", ""), list("a", "x"), list("abc", "{}:,' z"), list("a", "", "b", ""), list("a", "1", "ab", "2", "b", "3"),
		list("alg", "ML-DSA-44", "kty", "AKP", "pub", "AA-_"),
	} {
		o := newOracle()
		s := encoded(l)
		good(t, l)
		for i := range len(s) + 1 {
			o.check(t, s[:i])
			o.check(t, s[i:])
			for c := range 256 {
				letter := string([]byte{byte(c)})
				o.check(t, s[:i]+letter+s[i:])
				if i < len(s) {
					o.check(t, s[:i]+letter+s[i+1:])
				}
			}
			if i < len(s) {
				o.check(t, s[:i]+s[i+1:])
			}
			if t.Failed() {
				return
			}
		}
	}
}

// TestLists is for P11.1 and P11.4: many lists, valid or not, and what Parse
// returns for their texts.
func TestLists(t *testing.T) {
	names := []string{"", "a", "b", "ab", "A", strings.Repeat("c", 20), strings.Repeat("c", 21), "d\":\"\",\"e"}
	values := []string{"", "x", "\x1f", "\",\"z\":\""}
	var pairs []json.Pair
	for _, n := range names {
		for _, v := range values {
			pairs = append(pairs, pair(n, v))
		}
	}
	o := newOracle()
	check := func(l []json.Pair) {
		want, fault := o.parse(encoded(l))
		if fault.Code == 0 && slices.Equal(want, l) {
			good(t, l)
		} else {
			invalid(t, l)
			o.check(t, encoded(l))
		}
	}
	for _, p := range pairs {
		check([]json.Pair{p})
		for _, q := range pairs {
			check([]json.Pair{p, q})
			for _, r := range pairs {
				check([]json.Pair{p, q, r})
			}
		}
	}
}

// TestGet is for P11.3.
func TestGet(t *testing.T) {
	l := list("b", "1", "a", "2", "b", "3", "", "4", "A", "5", "ab", "", "ab", "6", "\xff", "7", "long"+strings.Repeat("x", 30), "\"")
	for _, x := range []struct {
		name, value string
		ok          bool
	}{
		{"b", "1", true}, {"a", "2", true}, {"", "4", true}, {"A", "5", true}, {"ab", "", true}, {"\xff", "7", true}, {"long" + strings.Repeat("x", 30), "\"", true},
		{"c", "", false}, {"B", "", false}, {"abc", "", false}, {"1", "", false}, {" a", "", false}, {"long", "", false}, {"\xfe", "", false}, {"\ufffd", "", false},
	} {
		if value, ok := json.Get(l, x.name); value != x.value || ok != x.ok {
			t.Errorf("Get of %q: %q, %v", x.name, value, ok)
		}
		for _, empty := range [][]json.Pair{nil, {}, l[:0]} {
			if value, ok := json.Get(empty, x.name); value != "" || ok {
				t.Errorf("Get of %q in an empty list: %q, %v", x.name, value, ok)
			}
		}
	}
	many := counted(1000)
	for _, p := range many {
		if value, ok := json.Get(many, p.Name); value != p.Value || !ok {
			t.Errorf("Get of %q: %q, %v", p.Name, value, ok)
		}
	}
}

// sorted inserts each pair behind all those whose names are not greater.
func sorted(l []json.Pair) []json.Pair {
	var out []json.Pair
	for _, p := range l {
		i := len(out)
		for i > 0 && out[i-1].Name > p.Name {
			i--
		}
		out = slices.Insert(out, i, p)
	}
	return out
}

// TestSorted is for P11.3.
func TestSorted(t *testing.T) {
	check := func(l []json.Pair) {
		t.Helper()
		before := slices.Clone(l)
		if got, want := json.Sorted(l), sorted(l); !slices.Equal(got, want) {
			t.Errorf("Sorted(%q): %q, want %q", l, got, want)
		}
		if !slices.Equal(l, before) {
			t.Errorf("Sorted made %q of %q", l, before)
		}
	}
	check(nil)
	check([]json.Pair{})
	names := []string{"b", "a", "ab", "", "B"}
	var grow func(l []json.Pair)
	grow = func(l []json.Pair) {
		check(l)
		if len(l) == 5 {
			return
		}
		for _, n := range names {
			// The values fall, so that they would tell a sort by values too.
			grow(append(slices.Clone(l), pair(n, strconv.Itoa(9-len(l)))))
		}
	}
	grow(nil)
	check(list("\xff", "1", "z", "2", "\u00e9", "3", "\x80", "4", "Z", "5", "z", "6"))
	// Long lists, in which an unstable sort would show.
	seed := uint64(1)
	for n := range 300 {
		var l []json.Pair
		for i := range n {
			seed = seed*6364136223846793005 + 1442695040888963407
			l = append(l, pair(name(int(seed>>60)), strconv.Itoa(i)))
		}
		check(l)
	}
	if l := json.Sorted(list("pub", "z", "alg", "x", "kty", "y")); !json.Valid(l) {
		t.Error(l)
	}
}

// TestMemory is for P11.1 to P11.3: arguments are not changed, nor shared with
// results, nor is what lies behind them.
func TestMemory(t *testing.T) {
	whole := []byte(`{"a":"x","b":"y"}{"c":"z"}`)
	text := string(whole)
	got, err := json.Parse(whole[:17])
	if string(whole) != text {
		t.Errorf("Parse made %q of %q", whole, text)
	}
	clear(whole)
	if want := list("a", "x", "b", "y"); !slices.Equal(got, want) || err != nil {
		t.Errorf("%q, %v", got, err)
	}

	room := list("a", "x", "b", "y", "c", "z", "c", "z")
	kept := slices.Clone(room)
	one, _ := json.Encode(room[:2])
	two, _ := json.Encode(room[:2])
	json.Valid(room[:2])
	json.Get(room[:2], "c")
	if !slices.Equal(room, kept) {
		t.Errorf("%q", room)
	}
	clear(one[:cap(one)])
	if string(two) != `{"a":"x","b":"y"}` {
		t.Errorf("%q", two)
	}

	room = list("b", "1", "a", "2", "c", "3", "0", "4")
	kept = slices.Clone(room)
	ordered := json.Sorted(room[:3])
	again := json.Sorted(room[:3])
	clear(again[:cap(again)])
	if !slices.Equal(room, kept) {
		t.Errorf("%q", room)
	}
	clear(room)
	if want := list("a", "2", "b", "1", "c", "3"); !slices.Equal(ordered, want) {
		t.Errorf("%q", ordered)
	}
	inOrder := list("a", "1", "b", "2")
	ordered = json.Sorted(inOrder)
	clear(inOrder)
	if want := list("a", "1", "b", "2"); !slices.Equal(ordered, want) {
		t.Errorf("%q", ordered)
	}
	empty := list("a", "1")
	_ = append(json.Sorted(empty[:0]), pair("z", "9"))
	if empty[0] != pair("a", "1") {
		t.Errorf("%q", empty)
	}
}
