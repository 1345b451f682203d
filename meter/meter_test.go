package meter_test

import (
	"math"
	"slices"
	"sync"
	"sync/atomic"
	"testing"

	"pyx/meter"
)

const top = 1 << 62

// check compares what the methods of a meter tell with its count and budget.
func check(t *testing.T, name string, m *meter.Meter, count, budget int64) {
	t.Helper()
	if got := m.Count(); got != count {
		t.Errorf("%s: Count: %d, want %d", name, got, count)
	}
	if got := m.Left(); got != budget-count {
		t.Errorf("%s: Left: %d, want %d", name, got, budget-count)
	}
	if got := m.Full(); got != (count == budget) {
		t.Errorf("%s: Full: %v with the count %d and the budget %d", name, got, count, budget)
	}
}

// add adds numbers, each of which the meter must accept or not.
func add(t *testing.T, name string, m *meter.Meter, ok bool, l ...int64) {
	t.Helper()
	for _, n := range l {
		if m.Add(n) != ok {
			t.Errorf("%s: Add(%d): %v, want %v", name, n, !ok, ok)
		}
	}
}

// full returns a meter whose count has reached its budget.
func full(budget int64) *meter.Meter {
	m := meter.New(budget)
	m.Add(budget)
	return m
}

// A nil Meter.

func TestNil(t *testing.T) {
	var m *meter.Meter
	for _, n := range []int64{0, 1, -1, 7, top, top + 1, math.MaxInt64, math.MinInt64} {
		add(t, "nil", m, true, n)
		if m.Count() != 0 || m.Left() != 0 || m.Full() {
			t.Errorf("nil after Add(%d): %d, %d, %v", n, m.Count(), m.Left(), m.Full())
		}
	}
}

// P3.1

func TestExample(t *testing.T) {
	m := meter.New(10)
	check(t, "new", m, 0, 10)
	add(t, "7", m, true, 7)
	check(t, "7", m, 7, 10)
	add(t, "7 and 4", m, false, 4)
	check(t, "7 and 4", m, 7, 10)
	add(t, "7 and 3", m, true, 3)
	check(t, "7 and 3", m, 10, 10)
}

func TestBudgets(t *testing.T) {
	for _, x := range []struct{ given, budget int64 }{
		{math.MinInt64, 0}, {math.MinInt64 + 1, 0}, {-top, 0}, {-5, 0}, {-1, 0}, {0, 0}, {1, 1}, {2, 2}, {1 << 31, 1 << 31}, {1<<32 + 1, 1<<32 + 1},
		{top - 1, top - 1}, {top, top}, {top + 1, top}, {math.MaxInt64 - 1, top}, {math.MaxInt64, top},
	} {
		m := meter.New(x.given)
		if m == nil {
			t.Fatalf("New(%d) is nil", x.given)
		}
		check(t, "new", m, 0, x.budget)
		add(t, "beyond", m, false, x.budget+1)
		check(t, "beyond", m, 0, x.budget)
		add(t, "exactly", m, true, x.budget)
		check(t, "exactly", m, x.budget, x.budget)
		add(t, "full", m, false, 1, x.budget+1, math.MaxInt64)
		add(t, "nothing", m, true, 0)
		check(t, "full", m, x.budget, x.budget)
	}
}

func TestNegativeNumbers(t *testing.T) {
	for _, budget := range []int64{-1, 0, 1, 10, top, math.MaxInt64} {
		for _, first := range []int64{0, 1, 10} {
			m := meter.New(budget)
			m.Add(first)
			count, left, all := m.Count(), m.Left(), m.Full()
			add(t, "negative", m, false, -1, -2, -10, -top, -top-1, math.MinInt64+1, math.MinInt64)
			if m.Count() != count || m.Left() != left || m.Full() != all {
				t.Errorf("a negative number changed %d, %d, %v to %d, %d, %v", count, left, all, m.Count(), m.Left(), m.Full())
			}
		}
	}
}

// The sum of the count and the number wraps around to a negative one or to a small one.
func TestSumsBeyondInt64(t *testing.T) {
	for _, count := range []int64{1, 2, 9, 10, top - 1, top} {
		for _, budget := range []int64{count, count + 1, top} {
			m := meter.New(budget)
			budget = min(budget, top)
			add(t, "count", m, true, count)
			add(t, "beyond", m, false, math.MaxInt64, math.MaxInt64-count+1, math.MaxInt64-1, budget-count+1)
			check(t, "beyond", m, count, budget)
			add(t, "rest", m, true, budget-count)
			check(t, "rest", m, budget, budget)
		}
	}
}

func TestZeroIsAddedAlways(t *testing.T) {
	for _, m := range []*meter.Meter{meter.New(-1), meter.New(0), meter.New(1), full(10), full(top)} {
		count, budget := m.Count(), m.Count()+m.Left()
		add(t, "zero", m, true, 0, 0, 0)
		check(t, "zero", m, count, budget)
	}
}

// Each sequence of numbers is compared with a count of its own.
func TestSequences(t *testing.T) {
	numbers := []int64{-3, 0, 1, 2, 3, 5, 8, 13, 21, math.MaxInt64}
	for budget := int64(0); budget < 40; budget++ {
		m, count := meter.New(budget), int64(0)
		seed := uint32(budget)
		for range 60 {
			seed = seed*1664525 + 1013904223
			n := numbers[int(seed>>16)%len(numbers)]
			ok := n >= 0 && n <= budget-count
			if ok {
				count += n
			}
			add(t, "sequence", m, ok, n)
			check(t, "sequence", m, count, budget)
		}
	}
}

func TestMetersAreApart(t *testing.T) {
	a, b := meter.New(10), meter.New(10)
	add(t, "a", a, true, 4)
	add(t, "b", b, true, 10)
	check(t, "a", a, 4, 10)
	check(t, "b", b, 10, 10)
	c := meter.New(10)
	check(t, "c", c, 0, 10)
}

// P3.2

func TestCountLeftFull(t *testing.T) {
	m := meter.New(1000)
	for n := range int64(1000) {
		check(t, "one by one", m, n, 1000)
		add(t, "one by one", m, true, 1)
	}
	check(t, "one by one", m, 1000, 1000)
	add(t, "one by one", m, false, 1)
	check(t, "one by one", m, 1000, 1000)
}

func TestReadingChangesNothing(t *testing.T) {
	m := meter.New(5)
	m.Add(2)
	for range 3 {
		check(t, "read", m, 2, 5)
		if meter.Sum(m) != 2 {
			t.Error("Sum of one meter")
		}
	}
}

// P3.3

func TestSum(t *testing.T) {
	a, b, c, z := meter.New(100), meter.New(100), full(1<<40), meter.New(0)
	a.Add(5)
	b.Add(6)
	b.Add(1000)
	for _, x := range []struct {
		l    []*meter.Meter
		want int64
	}{
		{nil, 0}, {[]*meter.Meter{}, 0}, {[]*meter.Meter{nil}, 0}, {[]*meter.Meter{nil, nil, nil}, 0}, {[]*meter.Meter{z}, 0}, {[]*meter.Meter{a}, 5},
		{[]*meter.Meter{nil, a}, 5}, {[]*meter.Meter{a, nil}, 5}, {[]*meter.Meter{a, nil, b}, 11}, {[]*meter.Meter{nil, b, nil, a, nil, z}, 11}, {[]*meter.Meter{c, b, a}, 1<<40 + 11},
		{[]*meter.Meter{full(top)}, top}, {[]*meter.Meter{full(top), full(top - 1)}, math.MaxInt64}, {[]*meter.Meter{full(top), meter.New(math.MaxInt64)}, top},
	} {
		before := slices.Clone(x.l)
		if got := meter.Sum(x.l...); got != x.want {
			t.Errorf("Sum of %d meters: %d, want %d", len(x.l), got, x.want)
		}
		if !slices.Equal(before, x.l) {
			t.Error("Sum changed its argument")
		}
	}
	check(t, "a", a, 5, 100)
	check(t, "b", b, 6, 100)
	if meter.Sum() != 0 || meter.Sum(a, b) != 11 || meter.Sum(nil, nil) != 0 {
		t.Error("Sum of separate arguments")
	}
}

func TestSumOfMany(t *testing.T) {
	for _, n := range []int64{2, 10, 999, 1000} {
		var l []*meter.Meter
		for i := range n {
			l = append(l, full(i+1))
		}
		if got := meter.Sum(l...); got != n*(n+1)/2 {
			t.Errorf("Sum of %d meters: %d", n, got)
		}
		// What is counted later counts too: only the meters are passed.
		l[0] = meter.New(50)
		l[0].Add(50)
		if got := meter.Sum(l...); got != n*(n+1)/2+49 {
			t.Errorf("Sum of %d meters with another one: %d", n, got)
		}
	}
	if meter.Sum(make([]*meter.Meter, 1000)...) != 0 {
		t.Error("Sum of 1000 nil meters")
	}
}

// P3.4

// together runs a function in several goroutines, which begin at the same time.
func together(n int, run func(i int)) {
	var all sync.WaitGroup
	begin := make(chan bool)
	for i := range n {
		all.Go(func() {
			<-begin
			run(i)
		})
	}
	close(begin)
	all.Wait()
}

func TestAddAtTheSameTime(t *testing.T) {
	m := meter.New(1 << 40)
	together(8, func(i int) {
		for range 20000 {
			if !m.Add(int64(i)) {
				t.Error("Add within the budget")
				return
			}
		}
	})
	check(t, "together", m, 20000*(0+1+2+3+4+5+6+7), 1<<40)
}

func TestBudgetAtTheSameTime(t *testing.T) {
	for range 20 {
		m := meter.New(5000)
		var accepted atomic.Int64
		together(8, func(int) {
			for range 1000 {
				if m.Add(1) {
					accepted.Add(1)
				}
			}
		})
		if accepted.Load() != 5000 {
			t.Errorf("%d steps of a budget of 5000 were accepted", accepted.Load())
		}
		check(t, "together", m, 5000, 5000)
	}
}

func TestNumbersAtTheSameTime(t *testing.T) {
	const budget = 30011
	for range 20 {
		m := meter.New(budget)
		var accepted atomic.Int64
		together(8, func(i int) {
			for k := range int64(1000) {
				n := (k*int64(i+3))%17 - 2
				if ok := m.Add(n); ok && n < 0 {
					t.Error("a negative number was accepted")
				} else if ok {
					accepted.Add(n)
				}
			}
		})
		check(t, "together", m, accepted.Load(), budget)
		// A number is refused only if it does not fit, and 14 is tried until the end.
		if m.Left() >= 14 {
			t.Errorf("%d are left", m.Left())
		}
	}
}

func TestReadAtTheSameTime(t *testing.T) {
	const budget = 40000
	m, other := meter.New(budget), meter.New(budget)
	together(8, func(i int) {
		last := int64(0)
		for range 10000 {
			if i < 5 {
				m.Add(1)
			}
			count, left, sum, filled := m.Count(), m.Left(), meter.Sum(m, nil, other), m.Full()
			if count < last || left < 0 || count+left > budget || sum < budget-left || sum > budget {
				t.Errorf("after the count %d: %d, %d left, sum %d", last, count, left, sum)
				return
			}
			if last = count; filled && m.Count() != budget {
				t.Error("full too early")
				return
			}
		}
	})
	check(t, "together", m, budget, budget)
	check(t, "other", other, 0, budget)
}
