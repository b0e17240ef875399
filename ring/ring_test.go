package ring

import (
	"math"
	"math/rand"
	"slices"
	"testing"

	"remontoir/api"
	"remontoir/mask"
)

// notSlots are numbers below and above the slots. Some of them are a slot if only their lowest 6, 8 or 32 bits are read.
var notSlots = []int{math.MinInt, -1 << 32, -1<<32 + 3, -256, -64, -61, -3, -1, 64, 65, 67, 128, 256, 259, 1 << 32, 1<<32 + 3, math.MaxInt - 1, math.MaxInt}

// model is what a ring should be: its timers in no order, each with its slot.
type model []entry

type entry struct {
	slot int
	due  api.Due
}

func (m *model) put(slot int, d api.Due) bool {
	if slices.Contains(notSlots, slot) {
		return false
	}
	for _, e := range *m {
		if e.due.Id == d.Id {
			return false
		}
	}
	*m = append(*m, entry{slot, d})
	return true
}

func (m *model) drop(id int) (int, bool) {
	for i, e := range *m {
		if e.due.Id == id {
			*m = append(slices.Clone((*m)[:i]), (*m)[i+1:]...)
			return e.slot, true
		}
	}
	return 0, false
}

func (m *model) take(slot int) []api.Due {
	list := m.list(slot)
	var rest model
	for _, e := range *m {
		if e.slot != slot {
			rest = append(rest, e)
		}
	}
	*m = rest
	return list
}

// list chooses the least timer that is left again and again, which is a sorting of its own.
func (m *model) list(slot int) []api.Due {
	var list []api.Due
	for {
		var least *api.Due
		for i := range *m {
			e := &(*m)[i]
			if e.slot != slot || slices.Contains(list, e.due) {
				continue
			}
			if least == nil || e.due.At < least.At || e.due.At == least.At && e.due.Id < least.Id {
				least = &e.due
			}
		}
		if least == nil {
			return list
		}
		list = append(list, *least)
	}
}

func (m *model) mask() uint64 {
	var set uint64
	for _, e := range *m {
		set |= 1 << e.slot
	}
	return set
}

// same fails unless the ring contains exactly the timers of the model, each in its slot, by everything that it tells of itself.
func same(t *testing.T, r *Ring, m *model) {
	t.Helper()
	if got := r.Len(); got != len(*m) {
		t.Fatalf("Len() = %d; want %d", got, len(*m))
	}
	if got := r.Mask(); got != m.mask() {
		t.Fatalf("Mask() = %#x; want %#x", got, m.mask())
	}
	for slot := range 64 {
		if got, want := r.List(slot), m.list(slot); !slices.Equal(got, want) {
			t.Fatalf("List(%d) = %v; want %v", slot, got, want)
		}
	}
}

// filled is a ring with three timers in slot 3, one in slot 0 and one in slot 63, and the model of it.
func filled(t *testing.T) (*Ring, *model) {
	t.Helper()
	r, m := New(), &model{}
	for _, e := range []entry{{3, api.Due{Id: 2, At: 67}}, {3, api.Due{Id: 9, At: 3}}, {3, api.Due{Id: 1, At: 67}}, {0, api.Due{Id: 4, At: 64}}, {63, api.Due{Id: 5, At: 63}}} {
		if !r.Put(e.slot, e.due) || !m.put(e.slot, e.due) {
			t.Fatalf("Put(%d, %v) = false", e.slot, e.due)
		}
	}
	same(t, r, m)
	return r, m
}

// P5.1: New returns an empty ring, one that shares nothing with another.
func TestNew(t *testing.T) {
	a, b := New(), New()
	if a == nil || b == nil {
		t.Fatal("New() = nil")
	}
	same(t, a, &model{})
	if !a.Put(3, api.Due{Id: 1, At: 67}) {
		t.Error("Put into an empty ring = false")
	}
	same(t, b, &model{})
	if !b.Put(4, api.Due{Id: 1, At: 68}) {
		t.Error("Put of a timer that is in another ring = false")
	}
	same(t, a, &model{{3, api.Due{Id: 1, At: 67}}})
	same(t, b, &model{{4, api.Due{Id: 1, At: 68}}})
}

// P5.1: the chapter's examples.
func TestExamples(t *testing.T) {
	r := New()
	if !r.Put(3, api.Due{Id: 1, At: 67}) || !r.Put(3, api.Due{Id: 2, At: 67}) {
		t.Error("Put of a new timer = false")
	}
	if got, want := r.Take(3), []api.Due{{Id: 1, At: 67}, {Id: 2, At: 67}}; !slices.Equal(got, want) {
		t.Errorf("Take(3) = %v; want %v", got, want)
	}
	r = New()
	if !r.Put(3, api.Due{Id: 1, At: 67}) || r.Put(4, api.Due{Id: 1, At: 5}) {
		t.Error("the second Put of timer 1 is the one that returns false")
	}
}

// P5.1: Put takes each slot, and any Id and At: what they mean is not the ring's concern.
func TestPut(t *testing.T) {
	r, m := New(), &model{}
	for slot := range 64 {
		for _, d := range []api.Due{{Id: slot, At: uint64(slot)}, {Id: -1 - slot, At: math.MaxUint64}, {Id: math.MaxInt - slot, At: 0}, {Id: math.MinInt + slot, At: 1 << 63}} {
			if !r.Put(slot, d) || !m.put(slot, d) {
				t.Errorf("Put(%d, %v) = false", slot, d)
			}
		}
	}
	same(t, r, m)
}

// P5.1: Put has no effect for a number that is not a slot.
func TestPutNoSlot(t *testing.T) {
	r, m := filled(t)
	for _, slot := range notSlots {
		for _, id := range []int{1, 7} {
			if r.Put(slot, api.Due{Id: id, At: 67}) {
				t.Errorf("Put(%d, timer %d) = true", slot, id)
			}
		}
	}
	same(t, r, m)
	if d := (api.Due{Id: 7, At: 67}); !r.Put(3, d) || !m.put(3, d) {
		t.Error("Put(3, timer 7) = false after it was refused elsewhere")
	}
	same(t, r, m)
}

// P5.1: Put has no effect for an Id that is stored, in the same slot or another one, with the same At or another one.
func TestPutTwice(t *testing.T) {
	r, m := filled(t)
	for slot := range 64 {
		for _, id := range []int{1, 2, 4, 5, 9} {
			for _, at := range []uint64{0, 3, 63, 64, 67, 68, math.MaxUint64} {
				if r.Put(slot, api.Due{Id: id, At: at}) {
					t.Errorf("Put(%d, {%d %d}) = true; the timer is stored", slot, id, at)
				}
			}
		}
	}
	same(t, r, m)
}

// P5.1: an Id that was dropped or taken may be put again.
func TestPutAgain(t *testing.T) {
	r, m := filled(t)
	r.Drop(4)
	m.drop(4)
	r.Take(3)
	m.take(3)
	for _, e := range []entry{{63, api.Due{Id: 4, At: 1}}, {5, api.Due{Id: 2, At: 67}}, {3, api.Due{Id: 1, At: 67}}, {0, api.Due{Id: 9, At: 0}}} {
		if !r.Put(e.slot, e.due) || !m.put(e.slot, e.due) {
			t.Errorf("Put(%d, %v) = false", e.slot, e.due)
		}
	}
	same(t, r, m)
}

// P5.1: Drop removes the one timer, whichever of its slot it is, and leaves the others in order.
func TestDrop(t *testing.T) {
	for _, x := range []struct{ id, slot int }{{9, 3}, {1, 3}, {2, 3}, {4, 0}, {5, 63}} {
		r, m := filled(t)
		if slot, ok := r.Drop(x.id); slot != x.slot || !ok {
			t.Errorf("Drop(%d) = %d, %v; want %d, true", x.id, slot, ok, x.slot)
		}
		m.drop(x.id)
		same(t, r, m)
		if slot, ok := r.Drop(x.id); slot != 0 || ok {
			t.Errorf("Drop(%d) = %d, %v the second time; want 0, false", x.id, slot, ok)
		}
		same(t, r, m)
	}
}

// P5.1: Drop of a timer that is not in the ring has no effect; 0 and the slots and times of timers are not Ids.
func TestDropNone(t *testing.T) {
	r, m := filled(t)
	for _, id := range []int{math.MinInt, -1, 0, 3, 6, 63, 64, 67, math.MaxInt} {
		if slot, ok := r.Drop(id); slot != 0 || ok {
			t.Errorf("Drop(%d) = %d, %v; want 0, false", id, slot, ok)
		}
	}
	same(t, r, m)
	if slot, ok := New().Drop(0); slot != 0 || ok {
		t.Errorf("Drop(0) = %d, %v in an empty ring; want 0, false", slot, ok)
	}
}

// P5.1: a timer with the Id 0 is like any other.
func TestTimerZero(t *testing.T) {
	r := New()
	if !r.Put(9, api.Due{}) || r.Put(9, api.Due{}) || r.Len() != 1 || r.Mask() != 1<<9 {
		t.Errorf("the timer {0 0} is not in the ring once: %v", r.List(9))
	}
	if slot, ok := r.Drop(0); slot != 9 || !ok {
		t.Errorf("Drop(0) = %d, %v; want 9, true", slot, ok)
	}
	same(t, r, &model{})
}

// P5.1: Take and List sort by At, then by Id: negative Ids come first, and great times last.
func TestSorted(t *testing.T) {
	sorted := []api.Due{
		{Id: math.MaxInt, At: 0}, {Id: math.MinInt, At: 1}, {Id: -1, At: 1}, {Id: 0, At: 1}, {Id: 1, At: 1}, {Id: math.MaxInt - 1, At: 1},
		{Id: -7, At: 67}, {Id: 7, At: 67}, {Id: 6, At: 1<<63 - 1}, {Id: 5, At: 1 << 63}, {Id: -9, At: math.MaxUint64}, {Id: 9, At: math.MaxUint64},
	}
	random := rand.New(rand.NewSource(5))
	for range 300 {
		r := New()
		for _, i := range random.Perm(len(sorted)) {
			r.Put(40, sorted[i])
		}
		if got := r.List(40); !slices.Equal(got, sorted) {
			t.Fatalf("List(40) = %v; want %v", got, sorted)
		}
		if got := r.Take(40); !slices.Equal(got, sorted) {
			t.Fatalf("Take(40) = %v; want %v", got, sorted)
		}
	}
}

// P5.1: Take empties its slot and no other one; List empties none.
func TestTakeAndList(t *testing.T) {
	for slot := range 64 {
		r, m := filled(t)
		if got, want := r.List(slot), m.list(slot); !slices.Equal(got, want) {
			t.Errorf("List(%d) = %v; want %v", slot, got, want)
		}
		same(t, r, m)
		if got, want := r.Take(slot), m.take(slot); !slices.Equal(got, want) {
			t.Errorf("Take(%d) = %v; want %v", slot, got, want)
		}
		same(t, r, m)
		if got := r.Take(slot); len(got) != 0 {
			t.Errorf("Take(%d) = %v the second time; want nothing", slot, got)
		}
		same(t, r, m)
	}
}

// P5.1: Take and List return nothing for a number that is not a slot.
func TestTakeAndListNoSlot(t *testing.T) {
	r, m := filled(t)
	for _, slot := range notSlots {
		if got := r.List(slot); len(got) != 0 {
			t.Errorf("List(%d) = %v; want nothing", slot, got)
		}
		if got := r.Take(slot); len(got) != 0 {
			t.Errorf("Take(%d) = %v; want nothing", slot, got)
		}
	}
	same(t, r, m)
}

// spoil overwrites a result with all its spare capacity.
func spoil(list []api.Due) {
	list = list[:cap(list)]
	for i := range list {
		list[i] = api.Due{Id: -77, At: 77}
	}
}

// P5.1: what List and Take return is new memory, its spare capacity too: to overwrite it changes neither the ring nor another result, and no later call changes it.
func TestResultsAreNew(t *testing.T) {
	// Lists of many lengths, so that some have spare capacity however lists grow.
	for n := range 20 {
		r, m := New(), &model{}
		put := func(slot, id int) {
			d := api.Due{Id: id, At: uint64(100 - id)}
			r.Put(slot, d)
			m.put(slot, d)
		}
		for id := range n {
			put(3, id)
			put(4, id+20)
		}
		listed, other := r.List(3), r.List(3)
		wantListed := slices.Clone(listed)
		spoil(other)
		spoil(r.List(4))
		same(t, r, m)

		put(3, 50)
		r.Drop(n / 2)
		m.drop(n / 2)
		taken, wantTaken := r.Take(3), m.take(3)
		for id := range n + 2 {
			put(3, id+60)
		}
		same(t, r, m)
		if !slices.Equal(listed, wantListed) {
			t.Errorf("List returned %v, which became %v", wantListed, listed)
		}
		if !slices.Equal(taken, wantTaken) {
			t.Errorf("Take returned %v, which became %v", wantTaken, taken)
		}
		spoil(listed)
		if !slices.Equal(taken, wantTaken) {
			t.Error("a result of Take shares memory with one of List")
		}
		spoil(taken)
		same(t, r, m)
	}
}

// P5.2: Mask has a slot from its first timer to its last one, and Len counts the timers of all slots.
func TestMaskAndLen(t *testing.T) {
	r := New()
	step := func(what string, set uint64, n int) {
		t.Helper()
		if r.Mask() != set || r.Len() != n {
			t.Errorf("%s: Mask() = %#x, Len() = %d; want %#x, %d", what, r.Mask(), r.Len(), set, n)
		}
	}
	step("empty", 0, 0)
	r.Put(0, api.Due{Id: 1, At: 1})
	step("one timer", 1, 1)
	r.Put(63, api.Due{Id: 2, At: 1})
	step("two slots", 1<<63+1, 2)
	r.Put(63, api.Due{Id: 3, At: 1})
	step("two timers in a slot", 1<<63+1, 3)
	r.Put(32, api.Due{Id: 3, At: 1})
	step("refused", 1<<63+1, 3)
	r.Drop(2)
	step("one of two dropped", 1<<63+1, 2)
	r.Drop(3)
	step("both dropped", 1, 1)
	r.Take(0)
	step("taken", 0, 0)
	for slot := range 64 {
		r.Put(slot, api.Due{Id: slot, At: 9})
	}
	step("all slots", math.MaxUint64, 64)
}

// P5.2: First, from a slot that is not empty, between two, behind the last, in an empty ring, and from numbers that are not slots.
func TestFirst(t *testing.T) {
	r := New()
	r.Put(40, api.Due{Id: 1, At: 1})
	r.Put(5, api.Due{Id: 2, At: 2})
	cases := []struct {
		from, slot int
		ok         bool
	}{
		{0, 5, true}, {4, 5, true}, {5, 5, true}, {6, 40, true}, {39, 40, true}, {40, 40, true}, {41, 5, true}, {63, 5, true},
		{-1, 0, false}, {64, 0, false}, {69, 0, false}, {math.MinInt, 0, false}, {math.MaxInt, 0, false},
	}
	for _, x := range cases {
		if slot, ok := r.First(x.from); slot != x.slot || ok != x.ok {
			t.Errorf("First(%d) = %d, %v; want %d, %v", x.from, slot, ok, x.slot, x.ok)
		}
		if slot, ok := New().First(x.from); slot != 0 || ok {
			t.Errorf("First(%d) = %d, %v in an empty ring; want 0, false", x.from, slot, ok)
		}
	}
}

// P5.2: the methods of a nil ring return false, nothing or 0.
func TestNil(t *testing.T) {
	var r *Ring
	for _, n := range append([]int{0, 1, 3, 63}, notSlots...) {
		if r.Put(n, api.Due{Id: 1, At: 67}) || r.Put(3, api.Due{Id: n, At: 67}) {
			t.Errorf("Put with %d = true", n)
		}
		if slot, ok := r.Drop(n); slot != 0 || ok {
			t.Errorf("Drop(%d) = %d, %v", n, slot, ok)
		}
		if got := r.Take(n); len(got) != 0 {
			t.Errorf("Take(%d) = %v", n, got)
		}
		if got := r.List(n); len(got) != 0 {
			t.Errorf("List(%d) = %v", n, got)
		}
		if slot, ok := r.First(n); slot != 0 || ok {
			t.Errorf("First(%d) = %d, %v", n, slot, ok)
		}
	}
	if r.Mask() != 0 || r.Len() != 0 {
		t.Errorf("Mask() = %#x, Len() = %d", r.Mask(), r.Len())
	}
}

// P5.3: after any calls, the ring contains exactly what was put and neither dropped nor taken, each in its slot.
func TestAnyCalls(t *testing.T) {
	random := rand.New(rand.NewSource(53))
	for round := range 60 {
		r, m := New(), &model{}
		// Few slots and Ids bring many refusals and long lists, many bring few.
		slots, ids := 1+random.Intn(64), 1+random.Intn(100)
		slot := func() int {
			if random.Intn(8) == 0 {
				return notSlots[random.Intn(len(notSlots))]
			}
			return random.Intn(slots)
		}
		for range 300 {
			anyCall(t, r, m, random, slot(), random.Intn(ids)-ids/3)
			same(t, r, m)
		}
		if t.Failed() {
			t.Fatalf("in round %d", round)
		}
	}
}

// anyCall makes one call on the ring and the model and compares what they return. Put is the most frequent one, so that the ring fills up.
func anyCall(t *testing.T, r *Ring, m *model, random *rand.Rand, slot, id int) {
	t.Helper()
	switch kind := random.Intn(20); {
	case kind < 14:
		d := api.Due{Id: id, At: uint64(random.Intn(12))}
		if got, want := r.Put(slot, d), m.put(slot, d); got != want {
			t.Fatalf("Put(%d, %v) = %v; want %v", slot, d, got, want)
		}
	case kind < 18:
		got, ok := r.Drop(id)
		if want, is := m.drop(id); got != want || ok != is {
			t.Fatalf("Drop(%d) = %d, %v; want %d, %v", id, got, ok, want, is)
		}
	case kind < 19:
		if got, want := r.Take(slot), m.take(slot); !slices.Equal(got, want) {
			t.Fatalf("Take(%d) = %v; want %v", slot, got, want)
		}
	default:
		got, ok := r.First(slot)
		if want, is := mask.Round(m.mask(), slot); got != want || ok != is {
			t.Fatalf("First(%d) = %d, %v; want %d, %v", slot, got, ok, want, is)
		}
	}
}
