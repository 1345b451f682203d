package fault_test

import (
	"errors"
	"io/fs"
	"math"
	"slices"
	"strconv"
	"strings"
	"sync"
	"testing"

	"pyx/api"
	"pyx/fault"
)

const far = 1 << 40

// plain is an error of another package that cannot be compared.
type plain []string

func (p plain) Error() string { return strings.Join(p, " ") }

// outer is an error of another package, whose Unwrap may return nil.
type outer struct{ inner error }

func (o outer) Error() string { return "outer" }

func (o outer) Unwrap() error { return o.inner }

// boasting says by its methods that it is what is not in its chain.
type boasting struct{ inner error }

func (b boasting) Error() string { return "boasting" }

func (b boasting) Unwrap() error { return b.inner }

func (b boasting) Is(target error) bool { return target == error(api.Budget) }

func (b boasting) As(target any) bool {
	switch t := target.(type) {
	case *api.Code:
		*t = api.Budget
	case *api.Fault:
		*t = api.Fault{Code: api.Budget, At: 1234}
	default:
		return false
	}
	return true
}

// like has the methods of an api.Fault, but is none.
type like struct{ api.Fault }

// broken panics when it is unwrapped.
type broken struct{}

func (broken) Error() string { return "broken" }

func (broken) Unwrap() error { panic("broken") }

// report is what is expected of an error.
type report struct {
	name  string
	err   error
	code  api.Code
	coded bool
	at    int
	fault bool
	parts []string
}

// check compares what the functions tell of an error with what is expected.
func check(t *testing.T, x report) {
	t.Helper()
	if c, ok := fault.Code(x.err); c != x.code || ok != x.coded {
		t.Errorf("%s: Code: %d, %v, want %d, %v", x.name, c, ok, x.code, x.coded)
	}
	if n, ok := fault.At(x.err); n != x.at || ok != x.fault {
		t.Errorf("%s: At: %d, %v, want %d, %v", x.name, n, ok, x.at, x.fault)
	}
	if got := fault.Parts(x.err); !slices.Equal(got, x.parts) {
		t.Errorf("%s: Parts: %q, want %q", x.name, got, x.parts)
	}
}

// P2.1

func TestNew(t *testing.T) {
	for _, c := range []api.Code{math.MinInt, -1, 0, api.TooLong, api.Length, api.Budget, 14, math.MaxInt} {
		for _, at := range []int{-far, -1, 0, 1, 7, api.MaxInput, far} {
			err := fault.New(c, at)
			if f, ok := err.(api.Fault); !ok || f != (api.Fault{Code: c, At: at}) {
				t.Errorf("New(%d, %d): %#v", c, at, err)
			}
			check(t, report{"New", err, c, true, at, true, nil})
		}
	}
}

// P2.2

func TestTexts(t *testing.T) {
	err := fault.New(api.Length, 7)
	for _, x := range []struct {
		err  error
		want string
	}{
		{fault.In("der", err), "der: error 6"},
		{fault.In("", err), ": error 6"},
		{fault.In("a: b", err), "a: b: error 6"},
		{fault.In("é\x00\xff%d", err), "é\x00\xff%d: error 6"},
		{fault.In("x", errors.New("")), "x: "},
		{fault.In("x", errors.New("of another package")), "x: of another package"},
		{fault.In("x", api.Hint), "x: error 10"},
		{fault.In("a", fault.In("b", err)), "a: b: error 6"},
		{fault.Shift(err, 3), "error 6"},
		{fault.Shift(plain{"one", "two"}, -far), "one two"},
		{fault.Shift(fault.Shift(err, 1), 2), "error 6"},
		{fault.In("a", fault.Shift(fault.In("b", fault.Shift(err, 5)), -2)), "a: b: error 6"},
		{fault.Shift(fault.In("a", fault.Shift(outer{err}, 0)), 0), "a: outer"},
	} {
		if got := x.err.Error(); got != x.want {
			t.Errorf("%q, want %q", got, x.want)
		}
	}
}

func TestUnwrap(t *testing.T) {
	pointer := &api.Fault{Code: api.Hint, At: 2}
	for _, err := range []error{api.Range, api.Fault{Code: api.Range, At: 1}, pointer, (*api.Fault)(nil), fault.In("a", api.Hint), fault.Shift(api.Hint, 1)} {
		for _, w := range []error{fault.In("b", err), fault.In("", err), fault.Shift(err, 0), fault.Shift(err, 8)} {
			if got := errors.Unwrap(w); got != err {
				t.Errorf("%#v is unwrapped to %#v", w, got)
			}
		}
	}
	if got, ok := errors.Unwrap(fault.In("a", plain{"x"})).(plain); !ok || !slices.Equal(got, plain{"x"}) {
		t.Errorf("an error that cannot be compared is unwrapped to %#v", got)
	}
}

func TestWrapsOfNil(t *testing.T) {
	for _, part := range []string{"", "der"} {
		if err := fault.In(part, nil); err != nil {
			t.Errorf("In(%q, nil): %#v", part, err)
		}
	}
	for _, by := range []int{-far, 0, 1, far} {
		if err := fault.Shift(nil, by); err != nil {
			t.Errorf("Shift(nil, %d): %#v", by, err)
		}
	}
	// What holds a nil pointer is not nil.
	if fault.In("a", (*api.Fault)(nil)) == nil || fault.Shift((*api.Fault)(nil), 1) == nil {
		t.Error("a nil pointer in an error")
	}
}

// P2.3

func TestErrorsWithoutCode(t *testing.T) {
	for _, x := range []report{
		{name: "nil"},
		{name: "other", err: errors.New("x")},
		{name: "not comparable", err: plain{"x"}},
		{name: "nothing to unwrap", err: outer{nil}},
		{name: "In", err: fault.In("a", errors.New("x")), parts: []string{"a"}},
		{name: "In of nothing", err: fault.In("", plain{}), parts: []string{""}},
		{name: "Shift", err: fault.Shift(errors.New("x"), 5)},
		{name: "both", err: fault.Shift(fault.In("a", fault.Shift(outer{outer{nil}}, 5)), 5), parts: []string{"a"}},
	} {
		check(t, x)
	}
}

func TestErrorsWithoutOffset(t *testing.T) {
	for _, x := range []report{
		{name: "code", err: api.Unknown, code: 8, coded: true},
		{name: "code 0", err: api.Code(0), code: 0, coded: true},
		{name: "code of no name", err: api.Code(-5), code: -5, coded: true},
		{name: "Shift", err: fault.Shift(api.Unknown, 4), code: 8, coded: true},
		{name: "In", err: fault.In("a", api.Unknown), code: 8, coded: true, parts: []string{"a"}},
		{name: "all", err: fault.Shift(fault.In("a", outer{fault.Shift(api.Order, far)}), -1), code: 7, coded: true, parts: []string{"a"}},
		{name: "pointer", err: &api.Fault{Code: api.Order, At: 9}, code: 7, coded: true},
		{name: "like a fault", err: like{api.Fault{Code: api.Order, At: 9}}, code: 7, coded: true},
	} {
		check(t, x)
	}
}

func TestErrorsWithOffset(t *testing.T) {
	f := api.Fault{Code: api.Length, At: 7}
	for _, x := range []report{
		{"fault", f, 6, true, 7, true, nil},
		{"zero fault", api.Fault{}, 0, true, 0, true, nil},
		{"the document's text", fault.In("der", f), 6, true, 7, true, []string{"der"}},
		{"the document's shift", fault.Shift(fault.In("der", f), 3), 6, true, 10, true, []string{"der"}},
		{"shift inside", fault.In("der", fault.Shift(f, 3)), 6, true, 10, true, []string{"der"}},
		{"shift by nothing", fault.Shift(f, 0), 6, true, 7, true, nil},
		{"shift below zero", fault.Shift(f, -20), 6, true, -13, true, nil},
		{"shift to zero", fault.Shift(f, -7), 6, true, 0, true, nil},
		{"shifts that cancel", fault.Shift(fault.Shift(f, -20), 20), 6, true, 7, true, nil},
		{"parts in order", fault.In("a", fault.In("b", fault.In("c", f))), 6, true, 7, true, []string{"a", "b", "c"}},
		{"equal and empty parts", fault.In("", fault.In("a", fault.In("a", fault.In("", f)))), 6, true, 7, true, []string{"", "a", "a", ""}},
		{"all", fault.In("a", fault.Shift(fault.In("b", fault.Shift(f, 5)), -2)), 6, true, 10, true, []string{"a", "b"}},
		{"another package outside", outer{fault.In("a", fault.Shift(f, 5))}, 6, true, 12, true, []string{"a"}},
		{"another package inside", fault.Shift(fault.In("a", outer{f}), 5), 6, true, 12, true, []string{"a"}},
		{"another package between", fault.Shift(fault.In("a", outer{fault.Shift(fault.In("b", &fs.PathError{Err: f}), 2)}), 1), 6, true, 10, true, []string{"a", "b"}},
	} {
		check(t, x)
	}
}

// What the library finds beside the chain is not in the chain.
func TestOnlyTheChainCounts(t *testing.T) {
	f := api.Fault{Code: api.Length, At: 7}
	for _, x := range []report{
		{name: "joined", err: errors.Join(fault.In("a", f))},
		{name: "joined inside", err: fault.In("a", fault.Shift(errors.Join(fault.In("b", f), api.Hint), 1)), parts: []string{"a"}},
		{name: "boasting", err: boasting{nil}},
		{name: "boasting inside", err: fault.In("a", fault.Shift(boasting{errors.New("x")}, 1)), parts: []string{"a"}},
		{"boasting of another", boasting{fault.In("a", fault.Shift(f, 1))}, 6, true, 8, true, []string{"a"}},
		{name: "boasting without offset", err: fault.In("a", boasting{api.Hint}), code: 10, coded: true, parts: []string{"a"}},
	} {
		check(t, x)
	}
}

func TestUnwrapThatPanics(t *testing.T) {
	for _, end := range []error{broken{}, (*api.Fault)(nil), (*outer)(nil)} {
		check(t, report{name: "alone", err: end})
		check(t, report{name: "inside", err: fault.In("a", fault.Shift(outer{fault.In("b", end)}, 3)), parts: []string{"a", "b"}})
	}
}

func TestLongChain(t *testing.T) {
	// Errors with a fault at the end of 1000: itself, its code, 499 parts and
	// 499 shifts.
	for _, by := range []int{-far, -1, 0, 1, far} {
		for _, at := range []int{-far, 0, far} {
			err := fault.New(api.Truncated, at)
			var parts []string
			for i := range 499 {
				err = fault.Shift(fault.In(strconv.Itoa(i), err), by)
				parts = append([]string{strconv.Itoa(i)}, parts...)
			}
			check(t, report{"long", err, 3, true, at + 499*by, true, parts})
			if want := strings.Join(parts, ": ") + ": error 3"; err.Error() != want {
				t.Errorf("the text of a long chain has %d bytes, want %d", len(err.Error()), len(want))
			}
		}
	}
	// Nothing but shifts, and nothing but errors of another package.
	shifts, others := fault.New(api.Truncated, far), error(api.Hint)
	for range 998 {
		shifts, others = fault.Shift(shifts, far), outer{others}
	}
	check(t, report{"shifts", shifts, 3, true, 999 * far, true, nil})
	check(t, report{name: "others", err: outer{others}, code: 10, coded: true})
}

func TestShiftsFromFar(t *testing.T) {
	for _, at := range []int{-far, 0, far} {
		for _, by := range []int{-far, 0, far} {
			check(t, report{"one", fault.Shift(fault.New(api.Hint, at), by), 10, true, at + by, true, nil})
			check(t, report{"two", fault.Shift(fault.Shift(fault.New(api.Hint, at), by), -far), 10, true, at + by - far, true, nil})
		}
	}
}

// P2.4

func TestNames(t *testing.T) {
	for i, want := range []string{
		"too long", "too deep", "truncated", "trailing", "syntax", "length", "order",
		"unknown", "range", "hint", "inconsistent", "bad object", "budget",
	} {
		if got := fault.Name(api.Code(i + 1)); got != want {
			t.Errorf("Name(%d): %q, want %q", i+1, got, want)
		}
	}
	for _, c := range []api.Code{math.MinInt, -1 << 32, -far, -13, -1, 0, 14, 15, 100, 257, 1<<32 + 1, far, far + 1, math.MaxInt} {
		if got := fault.Name(c); got != "" {
			t.Errorf("Name(%d): %q", c, got)
		}
	}
}

// P2.5

// wraps returns an error wrapped in ways of this package.
func wraps(err error) []error {
	return []error{
		fault.In("a", err),
		fault.Shift(err, 9),
		fault.In("a", fault.Shift(fault.In("b", fault.Shift(err, -3)), 5)),
	}
}

func TestIsFindsTheSame(t *testing.T) {
	one := errors.New("one")
	in, shift := fault.In("in", api.Hint), fault.Shift(plain{"x"}, 2)
	all := []error{
		one, errors.New("one"), api.Unknown, api.Budget, api.Fault{Code: api.Unknown, At: 7}, api.Fault{Code: api.Unknown, At: 8},
		&api.Fault{Code: api.Unknown, At: 7}, outer{one}, boasting{nil}, plain{"x"}, in, shift, fault.In("in", api.Hint),
		fault.In("p", plain{"x"}), errors.Join(one, api.Range), fs.ErrNotExist, &fs.PathError{Err: api.Range},
	}
	for i, err := range all {
		for j, target := range append(all, nil, api.Range) {
			want := errors.Is(err, target)
			for k, w := range wraps(err) {
				if errors.Is(w, target) != want {
					t.Errorf("errors.Is of %d, wrap %d, and %d: %v", i, k, j, !want)
				}
			}
		}
	}
	// The table holds both answers.
	if w := fault.In("a", in); !errors.Is(w, in) || !errors.Is(w, api.Hint) || errors.Is(w, api.Range) {
		t.Error("errors.Is of a wrapped error")
	}
}

// asFinds compares what errors.As finds for one type in an error and in its
// wraps.
func asFinds[T any](t *testing.T, err error, same func(a, b T) bool) {
	t.Helper()
	var want T
	ok := errors.As(err, &want)
	for k, w := range wraps(err) {
		var got T
		if errors.As(w, &got) != ok || !same(got, want) {
			t.Errorf("errors.As of %#v, wrap %d: %#v, want %#v, %v", err, k, got, want, ok)
		}
	}
}

func TestAsFindsTheSame(t *testing.T) {
	for _, err := range []error{
		errors.New("x"), api.Unknown, api.Fault{Code: api.Unknown, At: 7}, &api.Fault{Code: api.Hint, At: 1}, like{api.Fault{Code: api.Hint, At: 1}},
		outer{api.Fault{Code: api.Range, At: 2}}, outer{nil}, boasting{nil}, plain{"x", "y"}, errors.Join(api.Fault{Code: api.Hint, At: 4}, plain{"z"}),
		&fs.PathError{Op: "open", Err: api.Range}, fault.In("p", fault.Shift(fault.New(api.Order, 3), 4)), fault.Shift(outer{api.Order}, 1),
	} {
		asFinds(t, err, func(a, b api.Code) bool { return a == b })
		asFinds(t, err, func(a, b api.Fault) bool { return a == b })
		asFinds(t, err, func(a, b *api.Fault) bool { return a == b })
		asFinds(t, err, func(a, b *fs.PathError) bool { return a == b })
		asFinds(t, err, func(a, b like) bool { return a == b })
		asFinds(t, err, func(a, b outer) bool { return a == b })
		asFinds(t, err, func(a, b boasting) bool { return a == b })
		asFinds(t, err, func(a, b plain) bool { return slices.Equal(a, b) })
		asFinds(t, err, func(a, b interface{ Timeout() bool }) bool { return a == b })
	}
	// A shift does not change the fault that is found.
	var f api.Fault
	if !errors.As(fault.Shift(fault.New(api.Length, 7), 3), &f) || f != (api.Fault{Code: api.Length, At: 7}) {
		t.Errorf("errors.As of a shifted fault: %#v", f)
	}
}

// Rules 5 and 7: wrapping an error changes nothing in it, and asking it again
// gives new memory with the same answer.
func TestErrorsAreNotChanged(t *testing.T) {
	inner := fault.In("b", fault.Shift(fault.New(api.Length, 7), 1))
	left, right := fault.In("l", fault.Shift(inner, 10)), fault.Shift(fault.In("r", inner), 20)
	for range 2 {
		check(t, report{"inner", inner, 6, true, 8, true, []string{"b"}})
		check(t, report{"left", left, 6, true, 18, true, []string{"l", "b"}})
		check(t, report{"right", right, 6, true, 28, true, []string{"r", "b"}})
		parts := fault.Parts(left)
		parts[0], parts[1] = "", ""
	}
}

// Rule 8: the functions may be called concurrently.
func TestConcurrentCalls(t *testing.T) {
	var all sync.WaitGroup
	for i := range 8 {
		all.Go(func() {
			for n := range 100 {
				err := fault.In("a", fault.Shift(fault.New(api.Code(i), n), i))
				check(t, report{"concurrent", err, api.Code(i), true, n + i, true, []string{"a"}})
				if i > 0 && fault.Name(api.Code(i)) == "" {
					t.Error("no name", i)
				}
			}
		})
	}
	all.Wait()
}
