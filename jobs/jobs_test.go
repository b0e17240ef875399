package jobs

import (
	"cmp"
	"math"
	"math/rand"
	"slices"
	"testing"

	"remontoir/api"
)

// ids are those of jobs, the least and the greatest and some with the same low bits among them.
var ids = []int{0, 1, -1, 2, 7, 256, 1<<32 + 1, math.MinInt, math.MaxInt}

// untils are times. From the greater half on they are negative as an int64.
var untils = []uint64{0, 1, 40, 255, 256, 1 << 32, 1<<53 + 1, 1 << 62, 1<<63 - 1, 1 << 63, math.MaxUint64}

// notClasses are numbers below and above the classes. Some of them are a class if only their lowest 3, 8 or 32 bits are read.
var notClasses = []int{math.MinInt, -1 << 32, -8, -1, 8, 9, 16, 256, 1 << 32, 1<<32 + 3, math.MaxInt}

// notNumbers are no numbers of leases, some of them the same as 1 in their lowest 8 or 32 bits.
var notNumbers = []int{math.MinInt, -1 << 32, -2, -1, 0, 1<<32 + 1, 1<<62 + 1, math.MaxInt}

// of is a job state.
func of(state, used int) api.Try { return api.Try{State: state, Used: used} }

// wait is a waiting job.
func wait(id, class, came int) api.Wait { return api.Wait{Id: id, Class: class, Came: came} }

// leased is a lease as Fetch returns it.
func leased(number, job, try int, until uint64) api.Lease {
	return api.Lease{Number: number, Job: job, Try: try, Until: until}
}

// open is an open job of the model. Came is for one that waits; number and until are for one that is leased.
type open struct {
	id, class, state, used, came, number int
	until                                uint64
}

// model is what a book should be: its open jobs in no order.
type model struct {
	aging, room, tries, count int
	jobs                      []*open
}

// job returns the open job with an id, or nil.
func (m *model) job(id int) *open {
	for _, j := range m.jobs {
		if j.id == id {
			return j
		}
	}
	return nil
}

// holder returns the job that has the lease with a number, or nil.
func (m *model) holder(number int) *open {
	for _, j := range m.jobs {
		if j.state == api.Leased && j.number == number {
			return j
		}
	}
	return nil
}

func (m *model) close(id int) {
	m.jobs = slices.DeleteFunc(m.jobs, func(j *open) bool { return j.id == id })
}

func (m *model) add(id, class int) api.Errno {
	switch {
	case class < 0 || class > 7:
		return api.ErrArg
	case m.job(id) != nil:
		return api.ErrTwice
	case len(m.jobs) == m.room:
		return api.ErrFull
	}
	m.jobs = append(m.jobs, &open{id: id, class: class, state: api.Waiting, came: m.count})
	return api.OK
}

// waits sorts the waiting jobs by Came plus aging for each class, and then by Id.
func (m *model) waits() []api.Wait {
	var l []api.Wait
	for _, j := range m.jobs {
		if j.state == api.Waiting {
			l = append(l, wait(j.id, j.class, j.came))
		}
	}
	slices.SortFunc(l, func(x, y api.Wait) int {
		return cmp.Or(cmp.Compare(x.Came+m.aging*x.Class, y.Came+m.aging*y.Class), cmp.Compare(x.Id, y.Id))
	})
	return l
}

// fetch numbers the lease by the count: every lease is one job that was taken from the queue.
func (m *model) fetch(until uint64) (api.Lease, api.Errno) {
	l := m.waits()
	if len(l) == 0 {
		return api.Lease{}, api.ErrEmpty
	}
	m.count++
	j := m.job(l[0].Id)
	j.state, j.used, j.number, j.until = api.Leased, j.used+1, m.count, until
	return leased(j.number, j.id, j.used, until), api.OK
}

func (m *model) answer(number int) (int, api.Errno) {
	j := m.holder(number)
	if j == nil {
		return 0, api.ErrLease
	}
	m.close(j.id)
	return j.id, api.OK
}

func (m *model) fail(number int) (int, bool, api.Errno) {
	j := m.holder(number)
	if j == nil {
		return 0, false, api.ErrLease
	}
	j.state = api.Resting
	if j.used > m.tries {
		m.close(j.id)
		return j.id, true, api.OK
	}
	return j.id, false, api.OK
}

func (m *model) rested(id int) bool {
	j := m.job(id)
	if j == nil || j.state != api.Resting {
		return false
	}
	j.state, j.came = api.Waiting, m.count
	return true
}

func (m *model) drop(id int) bool {
	has := m.job(id) != nil
	m.close(id)
	return has
}

// both is a book and the model of it, which are given the same calls.
type both struct {
	b *Book
	m *model
}

func newBoth(t *testing.T, aging, room, tries int) both {
	t.Helper()
	b := New(aging, room, tries)
	if b == nil {
		t.Fatalf("New(%d, %d, %d) = nil", aging, room, tries)
	}
	return both{b, &model{aging: aging, room: room, tries: tries}}
}

// same fails unless the book is as the model says, by everything that it tells of itself.
func (x both) same(t *testing.T) {
	t.Helper()
	if x.b.Open() != len(x.m.jobs) || x.b.Count() != x.m.count {
		t.Fatalf("Open() = %d, Count() = %d; want %d, %d", x.b.Open(), x.b.Count(), len(x.m.jobs), x.m.count)
	}
	if l, want := x.b.Waits(), x.m.waits(); !slices.Equal(l, want) {
		t.Fatalf("Waits() = %v; want %v", l, want)
	}
	for _, id := range ids {
		x.state(t, id)
	}
	for _, j := range x.m.jobs {
		x.state(t, j.id)
	}
	for number := -1; number <= x.m.count+1; number++ {
		x.lease(t, number)
	}
	for _, number := range notNumbers {
		x.lease(t, number)
	}
}

func (x both) state(t *testing.T, id int) {
	t.Helper()
	want, is := api.Try{}, false
	if j := x.m.job(id); j != nil {
		want, is = of(j.state, j.used), true
	}
	if s, ok := x.b.State(id); s != want || ok != is {
		t.Fatalf("State(%d) = %v, %v; want %v, %v", id, s, ok, want, is)
	}
}

func (x both) lease(t *testing.T, number int) {
	t.Helper()
	want, is := api.Lease{}, false
	if j := x.m.holder(number); j != nil {
		want, is = leased(number, j.id, j.used, j.until), true
	}
	if l, ok := x.b.Lease(number); l != want || ok != is {
		t.Fatalf("Lease(%d) = %v, %v; want %v, %v", number, l, ok, want, is)
	}
}

func (x both) add(t *testing.T, id, class int) {
	t.Helper()
	if e, want := x.b.Add(id, class), x.m.add(id, class); e != want {
		t.Fatalf("Add(%d, %d) = %v; want %v", id, class, e, want)
	}
	x.same(t)
}

func (x both) fetch(t *testing.T, until uint64) {
	t.Helper()
	l, e := x.b.Fetch(until)
	if want, is := x.m.fetch(until); l != want || e != is {
		t.Fatalf("Fetch(%d) = %v, %v; want %v, %v", until, l, e, want, is)
	}
	x.same(t)
}

func (x both) answer(t *testing.T, number int) {
	t.Helper()
	job, e := x.b.Answer(number)
	if want, is := x.m.answer(number); job != want || e != is {
		t.Fatalf("Answer(%d) = %d, %v; want %d, %v", number, job, e, want, is)
	}
	x.same(t)
}

func (x both) fail(t *testing.T, number int) {
	t.Helper()
	job, dead, e := x.b.Fail(number)
	if want, end, is := x.m.fail(number); job != want || dead != end || e != is {
		t.Fatalf("Fail(%d) = %d, %v, %v; want %d, %v, %v", number, job, dead, e, want, end, is)
	}
	x.same(t)
}

func (x both) rested(t *testing.T, id int) {
	t.Helper()
	if ok, want := x.b.Rested(id), x.m.rested(id); ok != want {
		t.Fatalf("Rested(%d) = %v; want %v", id, ok, want)
	}
	x.same(t)
}

func (x both) drop(t *testing.T, id int) {
	t.Helper()
	if ok, want := x.b.Drop(id), x.m.drop(id); ok != want {
		t.Fatalf("Drop(%d) = %v; want %v", id, ok, want)
	}
	x.same(t)
}

// P12.1: New returns a book without jobs, or nil if one of its arguments is not in its range.
func TestNew(t *testing.T) {
	for _, x := range []struct {
		aging, room, tries int
		ok                 bool
	}{
		{1, 0, 0, true},
		{1, 1, 1, true},
		{2, 5, 3, true},
		{1, 1000, 9, true},
		{1000, 0, 9, true},
		{1000, 1000, 0, true},
		{1000, 1000, 9, true},
		{0, 5, 1, false},
		{-1, 5, 1, false},
		{1001, 5, 1, false},
		{5, -1, 1, false},
		{5, 1001, 1, false},
		{5, 5, -1, false},
		{5, 5, 10, false},
		{0, 0, 0, false},
		{0, -1, -1, false},
		{1001, 1001, 10, false},
		{1<<32 + 1, 5, 1, false},
		{5, 1 << 32, 1, false},
		{5, 5, 1 << 32, false},
		{math.MinInt, 5, 1, false},
		{math.MaxInt, 5, 1, false},
		{5, math.MinInt, 1, false},
		{5, math.MaxInt, 1, false},
		{5, 5, math.MinInt, false},
		{5, 5, math.MaxInt, false},
	} {
		b := New(x.aging, x.room, x.tries)
		if (b != nil) != x.ok {
			t.Errorf("New(%d, %d, %d) is not nil: %v", x.aging, x.room, x.tries, b != nil)
		}
		if b == nil || !x.ok {
			continue
		}
		y := both{b, &model{aging: x.aging, room: x.room, tries: x.tries}}
		y.same(t)
		y.fetch(t, 5)
		y.answer(t, 1)
		y.fail(t, 1)
		y.rested(t, 0)
		y.drop(t, 0)
	}
}

// P12.1, P12.2: the chapter's example.
func TestExample(t *testing.T) {
	b := New(1, 1, 0)
	if e := b.Add(1, 0); e != api.OK {
		t.Errorf("Add(1, 0) = %v", e)
	}
	if l, e := b.Fetch(20); l != leased(1, 1, 1, 20) || e != api.OK {
		t.Errorf("Fetch(20) = %v, %v", l, e)
	}
	if job, dead, e := b.Fail(1); job != 1 || !dead || e != api.OK {
		t.Errorf("Fail(1) = %d, %v, %v", job, dead, e)
	}
	if job, e := b.Answer(1); job != 0 || e != api.ErrLease {
		t.Errorf("Answer(1) = %d, %v", job, e)
	}
	if b.Open() != 0 {
		t.Errorf("Open() = %d", b.Open())
	}
}

// P12.1: Add refuses what is no class, an id that is open and one job too many, in this order, and none of the refusals has an effect.
func TestAdd(t *testing.T) {
	b, m := New(3, 2, 1), &model{aging: 3, room: 2, tries: 1}
	for _, x := range []struct {
		id, class int
		e         api.Errno
	}{
		{1, 8, api.ErrArg},
		{1, -1, api.ErrArg},
		{1, 7, api.OK},
		{1, 7, api.ErrTwice},
		{1, 0, api.ErrTwice},
		{1, 8, api.ErrArg},
		{2, 8, api.ErrArg},
		{1<<32 + 1, 0, api.OK},
		{2, 0, api.ErrFull},
		{0, 7, api.ErrFull},
		{1, 3, api.ErrTwice},
		{1<<32 + 1, 3, api.ErrTwice},
		{1, -1, api.ErrArg},
		{2, 8, api.ErrArg},
		{2, math.MinInt, api.ErrArg},
		{1, math.MaxInt, api.ErrArg},
	} {
		if e := b.Add(x.id, x.class); e != x.e {
			t.Errorf("Add(%d, %d) = %v; want %v", x.id, x.class, e, x.e)
		}
		if x.e == api.OK {
			m.add(x.id, x.class)
		}
		both{b, m}.same(t)
	}
}

// P12.1: any id and any class of the range will do, and nothing outside of it; the new job waits with Used 0.
func TestAddAnyJob(t *testing.T) {
	for _, id := range ids {
		for class := range 8 {
			x := newBoth(t, 5, 1, 1)
			x.add(t, id, class)
			if s, ok := x.b.State(id); s != of(api.Waiting, 0) || !ok {
				t.Errorf("State(%d) = %v, %v", id, s, ok)
			}
			if l := x.b.Waits(); !slices.Equal(l, []api.Wait{wait(id, class, 0)}) {
				t.Errorf("Waits() = %v after Add(%d, %d)", l, id, class)
			}
		}
		x := newBoth(t, 5, 1, 1)
		for _, class := range notClasses {
			if e := x.b.Add(id, class); e != api.ErrArg {
				t.Errorf("Add(%d, %d) = %v", id, class, e)
			}
		}
		x.same(t)
	}
}

// P12.1: a job is open, and takes up room, while it waits, is leased or rests; once it ended, is dead or was dropped, its place is free, and its id too.
func TestRoom(t *testing.T) {
	for name, end := range map[string]func(b *Book, until uint64){
		"answered": func(b *Book, until uint64) { b.Fetch(until); b.Answer(2) },
		"dead":     func(b *Book, until uint64) { b.Fetch(until); b.Fail(2) },
		"dropped":  func(b *Book, until uint64) { b.Drop(1) },
	} {
		b := New(2, 1, 1)
		taken := func(when string) {
			for _, x := range []struct {
				id, class int
				e         api.Errno
			}{{1, 8, api.ErrArg}, {2, 8, api.ErrArg}, {1, 3, api.ErrTwice}, {2, 0, api.ErrFull}} {
				if e := b.Add(x.id, x.class); e != x.e {
					t.Errorf("%s: Add(%d, %d) = %v of a job that is %s; want %v", name, x.id, x.class, e, when, x.e)
				}
			}
			if b.Open() != 1 {
				t.Errorf("%s: Open() = %d", name, b.Open())
			}
		}
		b.Add(1, 3)
		taken("waiting")
		b.Fetch(5)
		taken("leased")
		b.Fail(1)
		taken("resting")
		b.Rested(1)
		taken("waiting again")
		end(b, 9)
		if _, open := b.State(1); open || b.Open() != 0 {
			t.Errorf("%s: the job is open: %v; Open() = %d", name, open, b.Open())
		}
		count := b.Count()
		if e := b.Add(1, 6); e != api.OK {
			t.Errorf("%s: Add(1, 6) = %v", name, e)
		}
		if s, _ := b.State(1); s != of(api.Waiting, 0) || !slices.Equal(b.Waits(), []api.Wait{wait(1, 6, count)}) {
			t.Errorf("%s: the new job 1 is %v, Waits() = %v", name, s, b.Waits())
		}
	}
	none := newBoth(t, 2, 0, 1)
	none.add(t, 1, 0)
	none.add(t, 1, 8)
	none.fetch(t, 3)
}

// P12.1: as many jobs as room can be open at once, in all states mixed, and not one more.
func TestFullRoom(t *testing.T) {
	const room = api.MaxRoom
	b := New(7, room, 2)
	for id := range room {
		if e := b.Add(id, id%8); e != api.OK {
			t.Fatalf("Add(%d) = %v", id, e)
		}
	}
	for n := 1; n <= room/2; n++ {
		b.Fetch(uint64(n))
		if n%2 == 0 {
			b.Fail(n)
		}
	}
	if e := b.Add(room, 0); e != api.ErrFull || b.Open() != room || len(b.Waits()) != room/2 {
		t.Errorf("Add(%d) = %v; Open() = %d, %d wait", room, e, b.Open(), len(b.Waits()))
	}
	rested := 0
	for id := range room {
		if b.Rested(id) {
			rested++
		}
	}
	if rested != room/4 || len(b.Waits()) != 3*room/4 || b.Open() != room {
		t.Errorf("%d jobs rested, %d wait, %d are open", rested, len(b.Waits()), b.Open())
	}
	for n := 1; n <= room/2; n += 2 {
		if _, e := b.Answer(n); e != api.OK {
			t.Fatalf("Answer(%d) = %v", n, e)
		}
	}
	for id := range room / 4 {
		if e := b.Add(room+id, 0); e != api.OK {
			t.Fatalf("Add(%d) = %v", room+id, e)
		}
	}
	if e := b.Add(-1, 0); e != api.ErrFull {
		t.Errorf("Add(-1) = %v", e)
	}
	for id := range 2 * room {
		b.Drop(id)
	}
	if b.Open() != 0 || len(b.Waits()) != 0 {
		t.Errorf("Open() = %d, Waits() = %v", b.Open(), b.Waits())
	}
}

// P12.2: Fetch leases any job until any time, whatever times came before; Lease tells it whole, Case and Node are 0, and no other number does.
func TestFetchAny(t *testing.T) {
	for _, id := range ids {
		for _, until := range untils {
			b := New(5, 3, 3)
			b.Add(id, 4)
			l, e := b.Fetch(until)
			if l != leased(1, id, 1, until) || e != api.OK {
				t.Errorf("Fetch(%d) = %v, %v; want job %d", until, l, e, id)
			}
			if got, ok := b.Lease(1); got != l || !ok {
				t.Errorf("Lease(1) = %v, %v; want %v", got, ok, l)
			}
			if s, ok := b.State(id); s != of(api.Leased, 1) || !ok {
				t.Errorf("State(%d) = %v, %v", id, s, ok)
			}
			for _, number := range append([]int{2}, notNumbers...) {
				if got, ok := b.Lease(number); got != (api.Lease{}) || ok {
					t.Errorf("Lease(%d) = %v, %v", number, got, ok)
				}
			}
			if job, e := b.Answer(1); job != id || e != api.OK {
				t.Errorf("Answer(1) = %d, %v; want %d", job, e, id)
			}
		}
	}
	x := newBoth(t, 1, 20, 1)
	for i, until := range slices.Backward(untils) {
		x.add(t, i, 0)
		x.fetch(t, until)
		x.fetch(t, until)
	}
}

// P12.2: jobs are leased by their turns, at one turn by their ids, those that come and those that rested alike.
func TestFetchInTurn(t *testing.T) {
	b := New(3, 9, 2)
	b.Add(5, 1)
	b.Add(9, 0)
	b.Add(2, 2)
	b.Add(4, 1)
	until := uint64(0)
	next := func(want api.Lease) {
		t.Helper()
		until++
		want.Until = until
		if l, e := b.Fetch(until); l != want || e != api.OK {
			t.Fatalf("Fetch number %d = %v, %v; want %v", until, l, e, want)
		}
	}
	next(leased(1, 9, 1, 0))
	next(leased(2, 4, 1, 0))
	b.Fail(1)
	b.Rested(9)
	b.Add(1, 1)
	b.Add(8, 0)
	next(leased(3, 8, 1, 0))
	next(leased(4, 9, 2, 0))
	b.Fail(4)
	b.Rested(9)
	b.Fail(2)
	b.Rested(4)
	want := []api.Wait{wait(5, 1, 0), wait(9, 0, 4), wait(1, 1, 2), wait(2, 2, 0), wait(4, 1, 4)}
	if l := b.Waits(); !slices.Equal(l, want) {
		t.Fatalf("Waits() = %v; want %v", l, want)
	}
	next(leased(5, 5, 1, 0))
	next(leased(6, 9, 3, 0))
	next(leased(7, 1, 1, 0))
	next(leased(8, 2, 1, 0))
	next(leased(9, 4, 2, 0))
	if l, e := b.Fetch(99); l != (api.Lease{}) || e != api.ErrEmpty || b.Count() != 9 {
		t.Errorf("Fetch(99) = %v, %v; Count() = %d", l, e, b.Count())
	}
}

// P12.2: Fetch without a waiting job has no effect, be none open, or all leased or resting: it assigns no number and counts nothing.
func TestFetchEmpty(t *testing.T) {
	x := newBoth(t, 2, 3, 2)
	x.fetch(t, 5)
	x.add(t, 1, 0)
	x.fetch(t, 5)
	x.fetch(t, 6)
	x.fetch(t, 5)
	x.fail(t, 1)
	x.fetch(t, 7)
	x.rested(t, 1)
	x.fetch(t, 8)
	x.answer(t, 2)
	x.fetch(t, 9)
	x.add(t, 2, 7)
	x.drop(t, 2)
	x.fetch(t, 10)
	x.add(t, 2, 7)
	if l, e := x.b.Fetch(11); l != leased(3, 2, 1, 11) || e != api.OK {
		t.Errorf("Fetch(11) = %v, %v", l, e)
	}
}

// P12.2: Answer and Fail take a lease once. What is no lease they refuse without an effect: never assigned, answered, failed or dropped, or the id of the job.
func TestNoLease(t *testing.T) {
	x := newBoth(t, 2, 6, 2)
	refused := func(numbers ...int) {
		t.Helper()
		for _, number := range append(numbers, notNumbers...) {
			if job, e := x.b.Answer(number); job != 0 || e != api.ErrLease {
				t.Errorf("Answer(%d) = %d, %v", number, job, e)
			}
			if job, dead, e := x.b.Fail(number); job != 0 || dead || e != api.ErrLease {
				t.Errorf("Fail(%d) = %d, %v, %v", number, job, dead, e)
			}
		}
		x.same(t)
	}
	refused(1, 2)
	for id := 10; id < 15; id++ {
		x.add(t, id, 0)
	}
	refused(1, 2, 10)
	for range 4 {
		x.fetch(t, 50)
	}
	refused(5, 10, 11, 12, 13, 14)
	x.answer(t, 2)
	refused(2)
	x.fail(t, 3)
	refused(2, 3)
	x.drop(t, 13)
	refused(2, 3, 4)
	x.rested(t, 12)
	refused(2, 3, 4)
	x.fetch(t, 60)
	x.fetch(t, 60)
	refused(2, 3, 4)
	x.answer(t, 5)
	x.answer(t, 6)
	x.answer(t, 1)
	refused(1, 2, 3, 4, 5, 6)
	if x.b.Open() != 0 {
		t.Errorf("Open() = %d", x.b.Open())
	}
}

// P12.2: the lease of job 0 is told from none.
func TestJobZero(t *testing.T) {
	b := New(1, 1, 1)
	b.Add(0, 0)
	b.Fetch(5)
	if job, dead, e := b.Fail(1); job != 0 || dead || e != api.OK {
		t.Errorf("Fail(1) = %d, %v, %v", job, dead, e)
	}
	if !b.Rested(0) || b.Rested(0) {
		t.Error("Rested(0) is not true once")
	}
	b.Fetch(6)
	if job, dead, e := b.Fail(2); job != 0 || !dead || e != api.OK {
		t.Errorf("Fail(2) = %d, %v, %v", job, dead, e)
	}
	b.Add(0, 0)
	b.Fetch(7)
	if job, e := b.Answer(3); job != 0 || e != api.OK {
		t.Errorf("Answer(3) = %d, %v", job, e)
	}
}

// P12.2: a job that rests is neither waiting nor leased; it comes back once, with its own class and the Count of that time.
func TestRested(t *testing.T) {
	for class := range 8 {
		x := newBoth(t, 2, 9, 9)
		x.add(t, 1, class)
		for n := 1; n <= 9; n++ {
			x.rested(t, 1)
			x.fetch(t, 50)
			x.rested(t, 1)
			x.fail(t, x.m.count)
			if s, ok := x.b.State(1); s != of(api.Resting, n) || !ok {
				t.Fatalf("State(1) = %v, %v after the failure number %d", s, ok, n)
			}
			if len(x.b.Waits()) != 0 {
				t.Fatalf("Waits() = %v while job 1 rests", x.b.Waits())
			}
			for id := range n % 3 {
				x.add(t, 10+id, id)
				x.fetch(t, 60)
				x.answer(t, x.m.count)
			}
			x.rested(t, 2)
			x.rested(t, 1<<32+1)
			count := x.b.Count()
			if !x.b.Rested(1) || x.b.Rested(1) || !x.m.rested(1) {
				t.Fatal("Rested(1) is not true once")
			}
			x.same(t)
			if l := x.b.Waits(); !slices.Equal(l, []api.Wait{wait(1, class, count)}) {
				t.Fatalf("Waits() = %v; want class %d, Came %d", l, class, count)
			}
			if s, ok := x.b.State(1); s != of(api.Waiting, n) || !ok {
				t.Fatalf("State(1) = %v, %v when it waits again", s, ok)
			}
		}
		x.fetch(t, 70)
		x.fail(t, x.m.count)
		x.rested(t, 1)
	}
}

// P12.2: Drop closes a job in each of its states, and takes it out of the queue and its lease away; it leaves all other jobs as they were.
func TestDrop(t *testing.T) {
	for first := range 9 {
		for second := range 9 {
			x := newBoth(t, 3, 9, 2)
			for id := range 8 {
				x.add(t, id, id*3%8)
			}
			for range 5 {
				x.fetch(t, 40)
			}
			x.fail(t, 2)
			x.fail(t, 4)
			x.rested(t, x.m.jobs[3].id)
			for _, id := range []int{first, second, -1, 1<<32 + first, math.MinInt} {
				x.drop(t, id)
			}
			x.rested(t, first)
			x.add(t, first, 1)
			x.drop(t, second)
			for range 9 {
				x.fetch(t, 50)
			}
			for number := range 15 {
				x.fail(t, number)
			}
		}
	}
}

// P12.2: a dropped job leaves nothing behind: another one with the same id starts anew, and neither its old lease nor its old rest is there any more.
func TestDropAndAddAgain(t *testing.T) {
	x := newBoth(t, 2, 2, 2)
	x.add(t, 7, 5)
	x.fetch(t, 40)
	x.drop(t, 7)
	x.drop(t, 7)
	x.add(t, 7, 1)
	x.answer(t, 1)
	x.fail(t, 1)
	x.fetch(t, 41)
	x.fail(t, 2)
	x.drop(t, 7)
	x.add(t, 7, 3)
	x.rested(t, 7)
	x.fetch(t, 42)
	if l, ok := x.b.Lease(3); l != leased(3, 7, 1, 42) || !ok {
		t.Errorf("Lease(3) = %v, %v", l, ok)
	}
	x.fetch(t, 43)
}

// P12.1, P12.2: with each number of retries and without any, a job that always fails is leased tries + 1 times and then dead, and one that is answered at last ends.
func TestTries(t *testing.T) {
	for tries := range 10 {
		for answered := range tries + 2 {
			b := New(2, 1, tries)
			b.Add(5, 3)
			for n := 1; n <= tries+1; n++ {
				if l, e := b.Fetch(uint64(n)); l != leased(n, 5, n, uint64(n)) || e != api.OK {
					t.Fatalf("tries %d: Fetch number %d = %v, %v", tries, n, l, e)
				}
				if n == answered {
					if job, e := b.Answer(n); job != 5 || e != api.OK {
						t.Fatalf("tries %d: Answer(%d) = %d, %v", tries, n, job, e)
					}
					break
				}
				if job, dead, e := b.Fail(n); job != 5 || dead != (n == tries+1) || e != api.OK {
					t.Fatalf("tries %d: Fail(%d) = %d, %v, %v", tries, n, job, dead, e)
				}
				if b.Rested(5) != (n <= tries) {
					t.Fatalf("tries %d: Rested(5) is %v after failure number %d", tries, n > tries, n)
				}
			}
			if _, open := b.State(5); open || b.Open() != 0 || len(b.Waits()) != 0 || b.Drop(5) {
				t.Errorf("tries %d: job 5 is open after all: %v, %d", tries, open, b.Open())
			}
		}
	}
}

// P12.3: a nil book has nothing and opens nothing.
func TestNil(t *testing.T) {
	var b *Book
	for _, class := range []int{0, 7, 8, -1} {
		if e := b.Add(1, class); e != api.ErrArg {
			t.Errorf("Add(1, %d) = %v", class, e)
		}
	}
	for _, until := range untils {
		if l, e := b.Fetch(until); l != (api.Lease{}) || e != api.ErrArg {
			t.Errorf("Fetch(%d) = %v, %v", until, l, e)
		}
	}
	for _, number := range append([]int{1, 2}, notNumbers...) {
		if job, e := b.Answer(number); job != 0 || e != api.ErrArg {
			t.Errorf("Answer(%d) = %d, %v", number, job, e)
		}
		if job, dead, e := b.Fail(number); job != 0 || dead || e != api.ErrArg {
			t.Errorf("Fail(%d) = %d, %v, %v", number, job, dead, e)
		}
		if l, ok := b.Lease(number); l != (api.Lease{}) || ok {
			t.Errorf("Lease(%d) = %v, %v", number, l, ok)
		}
	}
	for _, id := range ids {
		s, ok := b.State(id)
		if s != (api.Try{}) || ok || b.Rested(id) || b.Drop(id) {
			t.Errorf("job %d is open: %v, %v", id, s, ok)
		}
	}
	if b.Open() != 0 || len(b.Waits()) > 0 || b.Count() != 0 {
		t.Errorf("Open() = %d, Waits() = %v, Count() = %d", b.Open(), b.Waits(), b.Count())
	}
}

// spoil overwrites a result with all its spare capacity.
func spoil(list []api.Wait) {
	list = list[:cap(list)]
	for i := range list {
		list[i] = wait(-77, 77, -77)
	}
}

// P12.3: the list of Waits is new memory, its spare capacity too: to overwrite it changes neither the book nor another list. The lengths are many, so that some have spare capacity however lists grow.
func TestWaitsAreNew(t *testing.T) {
	for n := range 20 {
		x := newBoth(t, 2, 30, 2)
		for id := range n {
			x.add(t, id, id*3%8)
		}
		first, second := x.b.Waits(), x.b.Waits()
		was := slices.Clone(second)
		spoil(first)
		if !slices.Equal(second, was) {
			t.Fatalf("two lists of %d share memory", n)
		}
		x.same(t)
		x.add(t, 99, 0)
		x.fetch(t, 5)
		x.fail(t, 1)
		x.rested(t, 99)
		x.drop(t, 0)
		if !slices.Equal(second, was) {
			t.Fatalf("later calls changed a list of %d to %v", n, second)
		}
		spoil(second)
		x.same(t)
	}
}

// P12.1: two books share nothing, the numbers of their leases neither.
func TestBooksApart(t *testing.T) {
	a, b := newBoth(t, 1, 2, 0), newBoth(t, 1000, 3, 9)
	a.add(t, 1, 5)
	a.add(t, 2, 5)
	a.fetch(t, 5)
	b.same(t)
	b.add(t, 1, 0)
	b.add(t, 3, 7)
	b.fetch(t, 9)
	b.fail(t, 1)
	a.same(t)
	a.fail(t, 1)
	b.same(t)
	b.rested(t, 1)
	a.drop(t, 2)
	b.drop(t, 3)
	b.fetch(t, 10)
	a.add(t, 1, 0)
	a.fetch(t, 11)
	a.same(t)
	b.same(t)
}

// P12.1, P12.2, P12.3: a book does as the model does in every sequence of five of a few calls, with a retry and without.
func TestAllShortSequences(t *testing.T) {
	calls := []func(x both){
		func(x both) { x.add(t, 7, 3) },
		func(x both) { x.add(t, 0, 1) },
		func(x both) { x.fetch(t, 20) },
		func(x both) { x.answer(t, 1) },
		func(x both) { x.fail(t, 1) },
		func(x both) { x.fail(t, 2) },
		func(x both) { x.rested(t, 7) },
		func(x both) { x.drop(t, 7) },
	}
	for number := range 1 << 15 {
		x := newBoth(t, 2, 1+number%2, number>>1%2)
		x.add(t, 7, 2)
		for place := range 5 {
			calls[number>>(3*place)&7](x)
		}
	}
}

// step does one call at random, mostly one that is not refused.
func (x both) step(t *testing.T, random *rand.Rand) {
	t.Helper()
	id, number := random.Intn(15)-7, random.Intn(x.m.count+2)
	if n := len(x.m.jobs); n > 0 && random.Intn(4) > 0 {
		j := x.m.jobs[random.Intn(n)]
		id, number = j.id, j.number
	}
	switch random.Intn(9) {
	case 0, 1, 2:
		x.add(t, random.Intn(15)-7, random.Intn(9)*random.Intn(9)%9)
	case 3, 4:
		x.fetch(t, uint64(random.Intn(50)))
	case 5:
		x.answer(t, number)
	case 6:
		x.fail(t, number)
	case 7:
		x.rested(t, id)
	default:
		if random.Intn(4) == 0 {
			x.drop(t, id)
		}
	}
}

// P12.1, P12.2, P12.3: a book does as the model does after every call of long random sequences.
func TestAtRandom(t *testing.T) {
	random := rand.New(rand.NewSource(12))
	for range 200 {
		x := newBoth(t, 1+random.Intn(5), random.Intn(9), random.Intn(4))
		for range 300 {
			x.step(t, random)
		}
	}
}

// P12.4: from its Add on, a job is leased at most tries + 1 times and never twice at once, as the book alone tells: no Fetch gives out a job whose last lease is still there, and no number comes twice.
func TestLeases(t *testing.T) {
	random := rand.New(rand.NewSource(124))
	for range 100 {
		tries := random.Intn(4)
		b := New(1+random.Intn(3), 5, tries)
		used, last := map[int]int{}, map[int]int{}
		numbers := 0
		for range 400 {
			id, number := random.Intn(7), numbers-random.Intn(6)
			switch random.Intn(7) {
			case 0, 1:
				if b.Add(id, random.Intn(8)) == api.OK {
					used[id], last[id] = 0, 0
				}
			case 2, 3:
				l, e := b.Fetch(9)
				if e != api.OK {
					break
				}
				if _, there := b.Lease(last[l.Job]); there {
					t.Fatalf("job %d is leased twice: %d, %v", l.Job, last[l.Job], l)
				}
				used[l.Job]++
				if l.Number != numbers+1 || l.Try != used[l.Job] || l.Try > tries+1 {
					t.Fatalf("Fetch = %v with %d tries; %d leases before, %d of this job", l, tries, numbers, used[l.Job])
				}
				numbers, last[l.Job] = l.Number, l.Number
			case 4:
				b.Fail(number)
			case 5:
				b.Rested(id)
			default:
				if random.Intn(3) == 0 {
					b.Answer(number)
				}
			}
		}
	}
}

// P12.4: a lease belongs to one job until that is answered, fails or is dropped, whatever happens to the others.
func TestLeaseStays(t *testing.T) {
	for name, end := range map[string]func(x both){
		"Answer": func(x both) { x.answer(t, 1) },
		"Fail":   func(x both) { x.fail(t, 1) },
		"Drop":   func(x both) { x.drop(t, 1) },
	} {
		x := newBoth(t, 1, 3, 1)
		x.add(t, 1, 0)
		x.fetch(t, 0)
		for n := 2; n < 20; n += 3 {
			x.add(t, 2, 0)
			x.add(t, 3, 7)
			x.fetch(t, math.MaxUint64)
			x.fetch(t, 0)
			x.fail(t, n)
			x.rested(t, 1)
			x.rested(t, 2)
			x.fetch(t, 5)
			x.answer(t, n+2)
			x.drop(t, 3)
			if l, ok := x.b.Lease(1); l != leased(1, 1, 1, 0) || !ok {
				t.Fatalf("Lease(1) = %v, %v", l, ok)
			}
		}
		end(x)
		if l, ok := x.b.Lease(1); l != (api.Lease{}) || ok {
			t.Errorf("Lease(1) = %v, %v after %s", l, ok, name)
		}
	}
}
