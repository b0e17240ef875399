package lease

import (
	"math"
	"math/rand"
	"slices"
	"testing"

	"remontoir/api"
)

// of is a lease.
func of(number, job int, until uint64) api.Grant {
	return api.Grant{Number: number, Job: job, Until: until}
}

// jobs are the least and the greatest number of a job and some with the same low bits.
var jobs = []int{0, 1, -1, 2, 7, 256, 1<<32 + 1, 1<<63 - 2, math.MinInt, math.MaxInt}

// untils ascend. Some have the same low or the same high bits, and from the greater half on they are negative as an int64.
var untils = []uint64{0, 1, 2, 255, 256, 1 << 32, 1<<32 + 1, 1<<53 + 1, 1 << 62, 1<<63 - 1, 1 << 63, 1<<63 + 1, math.MaxUint64 - 1, math.MaxUint64}

// notNumbers are no numbers of leases, some of them the same as 1 in their lowest 8 or 32 bits.
var notNumbers = []int{math.MinInt, -1 << 32, -2, -1, 0, 1<<32 + 1, 1<<62 + 1, math.MaxInt}

// model is what a table should be: its leases in the order of their numbers.
type model struct {
	last   int
	leases []api.Grant
}

func (m *model) grant(job int, until uint64) (int, api.Errno) {
	if _, leased := m.of(job); leased {
		return 0, api.ErrTwice
	}
	m.last++
	m.leases = append(m.leases, of(m.last, job, until))
	return m.last, api.OK
}

func (m *model) look(number int) (api.Grant, bool) {
	for _, g := range m.leases {
		if g.Number == number {
			return g, true
		}
	}
	return api.Grant{}, false
}

func (m *model) of(job int) (int, bool) {
	for _, g := range m.leases {
		if g.Job == job {
			return g.Number, true
		}
	}
	return 0, false
}

func (m *model) drop(number int) (int, bool) {
	g, ok := m.look(number)
	m.leases = slices.DeleteFunc(m.leases, func(g api.Grant) bool { return g.Number == number })
	return g.Job, ok
}

// over picks the lease with the least Until again and again, and of those with one Until that with the least Number.
func (m *model) over(now uint64) []api.Grant {
	var over []api.Grant
	for {
		next := -1
		for i, g := range m.leases {
			if g.Until <= now && (next < 0 || g.Until < m.leases[next].Until) {
				next = i
			}
		}
		if next < 0 {
			return over
		}
		over = append(over, m.leases[next])
		m.leases = slices.Delete(m.leases, next, next+1)
	}
}

// both is a table and the model of it, which are given the same calls.
type both struct {
	a *Table
	m *model
}

func newBoth() both { return both{New(), &model{}} }

// same fails unless the table is as the model says, by everything that it tells of itself.
func (b both) same(t *testing.T) {
	t.Helper()
	if l := b.a.List(); !slices.Equal(l, b.m.leases) || b.a.Len() != len(b.m.leases) {
		t.Fatalf("List() = %v, Len() = %d; want %v", l, b.a.Len(), b.m.leases)
	}
	for number := -1; number <= b.m.last+1; number++ {
		b.look(t, number)
	}
	for _, number := range notNumbers {
		b.look(t, number)
	}
	for _, job := range jobs {
		b.of(t, job)
	}
	for _, g := range b.m.leases {
		b.of(t, g.Job)
	}
}

func (b both) look(t *testing.T, number int) {
	t.Helper()
	g, ok := b.a.Look(number)
	if want, is := b.m.look(number); g != want || ok != is {
		t.Fatalf("Look(%d) = %v, %v; want %v, %v", number, g, ok, want, is)
	}
}

func (b both) of(t *testing.T, job int) {
	t.Helper()
	number, ok := b.a.Of(job)
	if want, is := b.m.of(job); number != want || ok != is {
		t.Fatalf("Of(%d) = %d, %v; want %d, %v", job, number, ok, want, is)
	}
}

func (b both) grant(t *testing.T, job int, until uint64) {
	t.Helper()
	number, e := b.a.Grant(job, until)
	if want, is := b.m.grant(job, until); number != want || e != is {
		t.Fatalf("Grant(%d, %d) = %d, %v; want %d, %v", job, until, number, e, want, is)
	}
	b.same(t)
}

func (b both) drop(t *testing.T, number int) {
	t.Helper()
	job, ok := b.a.Drop(number)
	if want, is := b.m.drop(number); job != want || ok != is {
		t.Fatalf("Drop(%d) = %d, %v; want %d, %v", number, job, ok, want, is)
	}
	b.same(t)
}

func (b both) over(t *testing.T, now uint64) {
	t.Helper()
	if l, want := b.a.Over(now), b.m.over(now); !slices.Equal(l, want) {
		t.Fatalf("Over(%d) = %v; want %v", now, l, want)
	}
	b.same(t)
}

// P10.1, P10.2: New returns an empty table, of which nothing can be got.
func TestNew(t *testing.T) {
	b := newBoth()
	if b.a == nil {
		t.Fatal("New() = nil")
	}
	b.same(t)
	for _, number := range append([]int{1, 2}, notNumbers...) {
		b.drop(t, number)
	}
	b.over(t, 0)
	b.over(t, math.MaxUint64)
	b.grant(t, 5, 9)
	if l := b.a.List(); !slices.Equal(l, []api.Grant{of(1, 5, 9)}) {
		t.Errorf("List() = %v", l)
	}
}

// P10.1, P10.2: the chapter's example.
func TestExample(t *testing.T) {
	a := New()
	if number, e := a.Grant(7, 20); number != 1 || e != api.OK {
		t.Errorf("Grant(7, 20) = %d, %v", number, e)
	}
	if number, e := a.Grant(7, 30); number != 0 || e != api.ErrTwice {
		t.Errorf("Grant(7, 30) = %d, %v", number, e)
	}
	if l := a.Over(20); !slices.Equal(l, []api.Grant{of(1, 7, 20)}) {
		t.Errorf("Over(20) = %v", l)
	}
	if number, e := a.Grant(7, 40); number != 2 || e != api.OK {
		t.Errorf("Grant(7, 40) = %d, %v", number, e)
	}
}

// P10.1: any job can be leased until any time, and Look and Of tell it whole.
func TestGrantAny(t *testing.T) {
	for _, job := range jobs {
		for _, until := range untils {
			a := New()
			if number, e := a.Grant(job, until); number != 1 || e != api.OK {
				t.Errorf("Grant(%d, %d) = %d, %v", job, until, number, e)
			}
			if g, ok := a.Look(1); g != of(1, job, until) || !ok {
				t.Errorf("Look(1) = %v, %v after Grant(%d, %d)", g, ok, job, until)
			}
			if number, ok := a.Of(job); number != 1 || !ok {
				t.Errorf("Of(%d) = %d, %v", job, number, ok)
			}
			if got, ok := a.Drop(1); got != job || !ok || a.Len() != 0 {
				t.Errorf("Drop(1) = %d, %v; want %d", got, ok, job)
			}
		}
	}
	b := newBoth()
	for i, job := range jobs {
		b.grant(t, job, untils[i])
	}
	for i := range jobs {
		b.drop(t, len(jobs)-i)
	}
}

// P10.1: Grant refuses a job that has a lease, until any time, and the refusal has no effect: it assigns no number and leaves Until as it was.
func TestGrantTwice(t *testing.T) {
	b := newBoth()
	for i, job := range jobs {
		b.grant(t, job, 50)
		for _, until := range append([]uint64{49, 50, 51}, untils...) {
			if number, e := b.a.Grant(job, until); number != 0 || e != api.ErrTwice {
				t.Fatalf("Grant(%d, %d) = %d, %v", job, until, number, e)
			}
		}
		b.same(t)
		if g, ok := b.a.Look(i + 1); g != of(i+1, job, 50) || !ok {
			t.Errorf("Look(%d) = %v, %v", i+1, g, ok)
		}
	}
	b.over(t, 49)
	b.grant(t, jobs[0], 60)
	b.over(t, 50)
}

// P10.1: Drop removes the lease with the number and nothing else, and only once; its job can be leased again then, by the next number.
func TestDrop(t *testing.T) {
	for n := range 9 {
		for number := 1; number <= n; number++ {
			b := newBoth()
			for i := range n {
				b.grant(t, 10*i, uint64(5*i%7))
			}
			for _, not := range append([]int{n + 1}, notNumbers...) {
				b.drop(t, not)
			}
			b.drop(t, number)
			b.drop(t, number)
			b.drop(t, 10*(number-1))
			b.grant(t, 10*(number-1), 3)
			b.drop(t, number)
			b.drop(t, n+1)
			b.over(t, 9)
		}
	}
}

// P10.1: Drop of the lease of job 0 is told from Drop of none.
func TestDropJobZero(t *testing.T) {
	a := New()
	a.Grant(0, 0)
	if job, ok := a.Drop(1); job != 0 || !ok {
		t.Errorf("Drop(1) = %d, %v; want 0, true", job, ok)
	}
	if job, ok := a.Drop(1); job != 0 || ok {
		t.Errorf("Drop(1) = %d, %v; want 0, false", job, ok)
	}
}

// P10.2: Over takes the leases until now and none that is longer, for all pairs of times.
func TestOverTimes(t *testing.T) {
	for i, now := range untils {
		b := newBoth()
		for k, until := range slices.Backward(untils) {
			b.grant(t, k, until)
		}
		l := b.a.Over(now)
		if len(l) != i+1 {
			t.Fatalf("Over(%d) = %v; want %d leases", now, l, i+1)
		}
		for k, g := range l {
			if g != of(len(untils)-k, k, untils[k]) {
				t.Errorf("Over(%d) has %v at %d", now, g, k)
			}
			if _, ok := b.a.Look(g.Number); ok {
				t.Errorf("Look(%d) is true after Over(%d)", g.Number, now)
			}
			if _, ok := b.a.Of(k); ok {
				t.Errorf("Of(%d) is true after Over(%d)", k, now)
			}
		}
		b.m.over(now)
		b.same(t)
		b.over(t, now)
	}
}

// P10.2: the leases that are over are sorted by Until and then by Number, not by Job; so many are equally long that their order in a map shows.
func TestOverOrder(t *testing.T) {
	b := newBoth()
	for i := range 60 {
		b.grant(t, 37*i%61-30, uint64(i*7%3))
	}
	l := b.a.Over(2)
	if len(l) != 60 || b.a.Len() != 0 {
		t.Fatalf("Over(2) returns %d leases and leaves %d; want 60, 0", len(l), b.a.Len())
	}
	for i, g := range l {
		if number := 1 + 3*(i%20) + i/20; g != of(number, 37*(number-1)%61-30, uint64(i/20)) {
			t.Errorf("Over(2) has %v at %d; want lease %d", g, i, number)
		}
	}
}

// P10.2: a table has no time of its own: a lease until a time before the last Over is granted and stays until the next Over, of any time from its Until on.
func TestOverForgetsNow(t *testing.T) {
	b := newBoth()
	b.grant(t, 1, 90)
	b.over(t, 100)
	b.grant(t, 1, 5)
	b.grant(t, 2, 100)
	b.over(t, 4)
	b.over(t, 5)
	b.grant(t, 3, 0)
	b.over(t, 0)
	b.over(t, 99)
	b.over(t, 100)
	b.grant(t, 1, 5)
	if l := b.a.List(); !slices.Equal(l, []api.Grant{of(5, 1, 5)}) {
		t.Errorf("List() = %v", l)
	}
}

// P10.2: List is sorted by Number, also with gaps, whatever the jobs and the times are.
func TestList(t *testing.T) {
	b := newBoth()
	for i := range 50 {
		b.grant(t, -i*29%53, uint64(50-i))
	}
	for number := 2; number <= 50; number += 3 {
		b.drop(t, number)
	}
	b.over(t, 10)
	for i := range 20 {
		b.grant(t, 100-i, uint64(i%4))
	}
	l := b.a.List()
	if !slices.IsSortedFunc(l, func(x, y api.Grant) int { return x.Number - y.Number }) || len(l) != 47 {
		t.Errorf("List() = %v", l)
	}
}

// P10.2: a nil table has nothing and grants nothing.
func TestNil(t *testing.T) {
	var a *Table
	for _, until := range untils {
		if number, e := a.Grant(1, until); number != 0 || e != api.ErrArg {
			t.Errorf("Grant(1, %d) = %d, %v", until, number, e)
		}
		if l := a.Over(until); len(l) > 0 {
			t.Errorf("Over(%d) = %v", until, l)
		}
	}
	for _, number := range append([]int{1, 2}, notNumbers...) {
		if g, ok := a.Look(number); g != (api.Grant{}) || ok {
			t.Errorf("Look(%d) = %v, %v", number, g, ok)
		}
		if job, ok := a.Drop(number); job != 0 || ok {
			t.Errorf("Drop(%d) = %d, %v", number, job, ok)
		}
	}
	for _, job := range jobs {
		if number, ok := a.Of(job); number != 0 || ok {
			t.Errorf("Of(%d) = %d, %v", job, number, ok)
		}
	}
	if len(a.List()) > 0 || a.Len() != 0 {
		t.Errorf("List() = %v, Len() = %d", a.List(), a.Len())
	}
}

// spoil overwrites a result with all its spare capacity.
func spoil(list []api.Grant) {
	list = list[:cap(list)]
	for i := range list {
		list[i] = of(-77, -77, 77)
	}
}

// P10.2: results are new memory, their spare capacity too: to overwrite them changes neither the table nor another result. The lengths are many, so that some have spare capacity however lists grow.
func TestListsAreNew(t *testing.T) {
	for n := range 20 {
		b := newBoth()
		for i := range n {
			b.grant(t, i, uint64(i))
		}
		first, second := b.a.List(), b.a.List()
		was := slices.Clone(second)
		spoil(first)
		b.same(t)
		if !slices.Equal(second, was) {
			t.Fatalf("two lists of %d share memory", n)
		}
		over := b.a.Over(uint64(n / 2))
		gone := slices.Clone(over)
		b.m.over(uint64(n / 2))
		b.grant(t, 99, 0)
		b.grant(t, 98, 0)
		b.drop(t, n)
		rest := b.a.Over(math.MaxUint64)
		b.m.over(math.MaxUint64)
		if !slices.Equal(second, was) || !slices.Equal(over, gone) {
			t.Fatalf("later calls changed a list of %d to %v, or what was over to %v", n, second, over)
		}
		spoil(rest)
		b.same(t)
		if !slices.Equal(over, gone) {
			t.Fatalf("two results of Over share memory with %d leases", n)
		}
	}
}

// P10.1: two tables share nothing, their numbers neither.
func TestTablesApart(t *testing.T) {
	a, b := newBoth(), newBoth()
	a.grant(t, 1, 5)
	a.grant(t, 2, 5)
	b.same(t)
	b.grant(t, 2, 9)
	b.grant(t, 3, 4)
	a.drop(t, 1)
	a.over(t, 7)
	b.same(t)
	b.drop(t, 1)
	b.over(t, 9)
	a.same(t)
	a.grant(t, 3, 1)
	b.grant(t, 3, 1)
}

// P10.1, P10.2: a table does as the model does in every sequence of five of a few calls.
func TestAllShortSequences(t *testing.T) {
	calls := []func(b both){
		func(b both) { b.grant(t, 7, 3) },
		func(b both) { b.grant(t, 7, 1) },
		func(b both) { b.grant(t, 2, 2) },
		func(b both) { b.grant(t, 0, 2) },
		func(b both) { b.drop(t, 1) },
		func(b both) { b.drop(t, 2) },
		func(b both) { b.over(t, 1) },
		func(b both) { b.over(t, 2) },
	}
	for number := range 1 << 15 {
		b := newBoth()
		for place := range 5 {
			calls[number>>(3*place)&7](b)
		}
	}
}

// step does one call at random and returns the leases that it removed.
func (b both) step(t *testing.T, random *rand.Rand) []api.Grant {
	t.Helper()
	was := slices.Clone(b.m.leases)
	switch random.Intn(6) {
	case 0:
		b.drop(t, random.Intn(b.m.last+2))
	case 1:
		if len(was) > 0 {
			b.drop(t, was[random.Intn(len(was))].Number)
		}
	case 2:
		b.over(t, uint64(random.Intn(9)))
	default:
		b.grant(t, random.Intn(15)-7, uint64(random.Intn(40)))
	}
	return slices.DeleteFunc(was, func(g api.Grant) bool { return slices.Contains(b.m.leases, g) })
}

// P10.1, P10.2: a table does as the model does after every call of long random sequences.
func TestAtRandom(t *testing.T) {
	random := rand.New(rand.NewSource(10))
	for range 60 {
		b := newBoth()
		for range 300 {
			b.step(t, random)
		}
		b.over(t, 40)
	}
}

// P10.3: at no time has a job two leases, and what was removed is nowhere to be found any more, whatever is granted later.
func TestOneLeaseAndNeverAgain(t *testing.T) {
	random := rand.New(rand.NewSource(103))
	for range 40 {
		b := newBoth()
		removed := map[int]bool{}
		for range 300 {
			for _, g := range b.step(t, random) {
				if removed[g.Number] {
					t.Fatalf("lease %d was removed twice", g.Number)
				}
				removed[g.Number] = true
			}
			leased := map[int]bool{}
			for _, g := range b.a.List() {
				if leased[g.Job] || removed[g.Number] {
					t.Fatalf("%v: its job has two leases: %v; it was removed before: %v", g, leased[g.Job], removed[g.Number])
				}
				leased[g.Job] = true
			}
			for number := range removed {
				if _, ok := b.a.Look(number); ok {
					t.Fatalf("Look(%d) is true after the lease was removed", number)
				}
				if job, ok := b.a.Drop(number); ok {
					t.Fatalf("Drop(%d) = %d after the lease was removed", number, job)
				}
			}
			b.same(t)
		}
	}
}

// P10.3: the numbers go on behind the greatest one that was ever assigned, also if all leases are removed, by Drop or by Over.
func TestNumbersAreNotReused(t *testing.T) {
	a := New()
	for n := 1; n <= 3000; n++ {
		if number, e := a.Grant(7, 5); number != n || e != api.OK {
			t.Fatalf("Grant number %d = %d, %v", n, number, e)
		}
		if n%2 == 0 {
			a.Drop(n)
		} else {
			a.Over(5)
		}
		if _, ok := a.Look(n); ok || a.Len() != 0 {
			t.Fatalf("lease %d was not removed", n)
		}
	}
}

// P10.1, P10.2: many leases are granted and removed, each found by its number and by its job.
func TestManyLeases(t *testing.T) {
	const most = 100000
	random := rand.New(rand.NewSource(101))
	a := New()
	for i, job := range random.Perm(most) {
		if number, e := a.Grant(job, uint64(job)); number != i+1 || e != api.OK {
			t.Fatalf("Grant(%d) = %d, %v", job, number, e)
		}
	}
	for job := range most {
		number, ok := a.Of(job)
		if g, is := a.Look(number); !ok || !is || g != of(number, job, uint64(job)) {
			t.Fatalf("Of(%d) = %d, %v; Look of it = %v, %v", job, number, ok, g, is)
		}
		if job%2 == 0 {
			a.Drop(number)
		}
	}
	if a.Len() != most/2 || len(a.List()) != most/2 {
		t.Fatalf("Len() = %d, List() has %d", a.Len(), len(a.List()))
	}
	for i, g := range a.Over(most) {
		if g.Job != 2*i+1 {
			t.Fatalf("Over has %v at %d", g, i)
		}
	}
	if a.Len() != 0 {
		t.Errorf("Len() = %d", a.Len())
	}
}
