package lru_test

import (
	"math"
	"math/rand"
	"slices"
	"strconv"
	"sync"
	"testing"

	"encore/api"
	"encore/lru"
)

func newCache[K comparable, V any](t *testing.T, capacity int) *lru.Cache[K, V] {
	t.Helper()
	c, e := lru.New[K, V](capacity)
	if c == nil || e != api.OK {
		t.Fatalf("New(%d) = %v, %d, want a cache, OK", capacity, c, e)
	}
	return c
}

func wantKeys[K comparable, V any](t *testing.T, c *lru.Cache[K, V], want ...K) {
	t.Helper()
	if got := c.Keys(); !slices.Equal(got, want) {
		t.Fatalf("Keys() = %v, want %v", got, want)
	}
}

func wantGet[K, V comparable](t *testing.T, c *lru.Cache[K, V], key K, want V) {
	t.Helper()
	if v, ok := c.Get(key); v != want || !ok {
		t.Fatalf("Get(%v) = %v, %t, want %v, true", key, v, ok, want)
	}
}

func wantNone[K, V comparable](t *testing.T, c *lru.Cache[K, V], key K) {
	t.Helper()
	var zero V
	if v, ok := c.Get(key); v != zero || ok {
		t.Fatalf("Get(%v) = %v, %t, want %v, false", key, v, ok, zero)
	}
}

// P3: New.

func TestNewRefusesCapacity(t *testing.T) {
	for _, n := range []int{0, 65, -1, -64, 66, 128, 256, 257, 1 << 32, 1<<32 + 1, math.MaxInt, math.MinInt, math.MinInt + 1} {
		if c, e := lru.New[int, string](n); c != nil || e != 1 {
			t.Errorf("New(%d) = %v, %d, want nil, ErrSize (1)", n, c, e)
		}
	}
}

func TestNewHasNoEntries(t *testing.T) {
	for n := 1; n <= 64; n++ {
		c := newCache[int, string](t, n)
		wantKeys(t, c)
		wantNone(t, c, 0)
		wantKeys(t, c)
	}
}

func TestCapacityIsKeptTo(t *testing.T) {
	for n := 1; n <= 64; n++ {
		c := newCache[int, int](t, n)
		var want []int
		for i := range 3 * n {
			c.Put(i, -i)
			want = append([]int{i}, want...)
			want = want[:min(n, len(want))]
			wantKeys(t, c, want...)
		}
		for i := range 2 * n {
			wantNone(t, c, i)
		}
		for i := 2 * n; i < 3*n; i++ {
			wantGet(t, c, i, -i)
		}
	}
}

// P3: Put, Get and Keys.

func TestDocumentExample(t *testing.T) {
	c := newCache[int, string](t, 2)
	c.Put(1, "a")
	c.Put(2, "b")
	wantGet(t, c, 1, "a")
	c.Put(3, "c")
	wantKeys(t, c, 3, 1)
	wantNone(t, c, 2)
}

func TestCapacityOne(t *testing.T) {
	c := newCache[string, int](t, 1)
	c.Put("a", 1)
	wantGet(t, c, "a", 1)
	c.Put("a", 2)
	wantKeys(t, c, "a")
	wantGet(t, c, "a", 2)
	c.Put("b", 3)
	wantKeys(t, c, "b")
	wantNone(t, c, "a")
	wantGet(t, c, "b", 3)
}

func TestPutAgainIsUseAndForgetsNothing(t *testing.T) {
	c := newCache[int, string](t, 3)
	c.Put(1, "a")
	c.Put(2, "b")
	c.Put(3, "c")
	c.Put(1, "z")
	wantKeys(t, c, 1, 3, 2)
	c.Put(3, "y")
	wantKeys(t, c, 3, 1, 2)
	c.Put(3, "x")
	wantKeys(t, c, 3, 1, 2)
	wantGet(t, c, 2, "b")
	wantGet(t, c, 1, "z")
	wantGet(t, c, 3, "x")
}

func TestGetIsUse(t *testing.T) {
	c := newCache[int, string](t, 3)
	c.Put(1, "a")
	c.Put(2, "b")
	c.Put(3, "c")
	wantGet(t, c, 1, "a")
	wantKeys(t, c, 1, 3, 2)
	wantGet(t, c, 3, "c")
	wantKeys(t, c, 3, 1, 2)
	c.Put(4, "d")
	wantKeys(t, c, 4, 3, 1)
	wantNone(t, c, 2)
}

func TestGetOfMissingKeyChangesNothing(t *testing.T) {
	c := newCache[int, string](t, 2)
	c.Put(1, "a")
	wantNone(t, c, 2)
	wantKeys(t, c, 1)
	c.Put(2, "b")
	wantNone(t, c, 3)
	wantNone(t, c, math.MinInt)
	wantKeys(t, c, 2, 1)
	c.Put(3, "c")
	wantNone(t, c, 1)
	wantKeys(t, c, 3, 2)
}

func TestKeysIsNoUse(t *testing.T) {
	c := newCache[int, string](t, 2)
	c.Put(1, "a")
	c.Put(2, "b")
	wantKeys(t, c, 2, 1)
	wantKeys(t, c, 2, 1)
	c.Put(3, "c")
	wantKeys(t, c, 3, 2)
}

func TestForgottenKeyComesBackAsNew(t *testing.T) {
	c := newCache[int, string](t, 2)
	c.Put(1, "a")
	c.Put(2, "b")
	c.Put(3, "c")
	wantNone(t, c, 1)
	c.Put(1, "new")
	wantKeys(t, c, 1, 3)
	wantGet(t, c, 1, "new")
	wantNone(t, c, 2)
}

func TestZeroKeysAndZeroValuesAreEntries(t *testing.T) {
	c := newCache[string, int](t, 2)
	wantNone(t, c, "")
	c.Put("", 0)
	wantKeys(t, c, "")
	wantGet(t, c, "", 0)
	c.Put("a", 1)
	c.Put("a", 0)
	wantGet(t, c, "a", 0)
	wantKeys(t, c, "a", "")
}

func TestKeysOfManyTypes(t *testing.T) {
	type pair struct {
		name string
		at   [2]int
	}
	pairs := newCache[pair, int](t, 4)
	pairs.Put(pair{"a", [2]int{1, 2}}, 1)
	pairs.Put(pair{"a", [2]int{2, 1}}, 2)
	pairs.Put(pair{"b", [2]int{1, 2}}, 3)
	wantGet(t, pairs, pair{"a", [2]int{1, 2}}, 1)
	wantGet(t, pairs, pair{"a", [2]int{2, 1}}, 2)
	wantGet(t, pairs, pair{"b", [2]int{1, 2}}, 3)
	wantNone(t, pairs, pair{})

	empties := newCache[struct{}, string](t, 2)
	empties.Put(struct{}{}, "a")
	empties.Put(struct{}{}, "b")
	wantKeys(t, empties, struct{}{})
	wantGet(t, empties, struct{}{}, "b")

	one, same := new(int), new(int)
	pointers := newCache[*int, string](t, 3)
	pointers.Put(one, "one")
	pointers.Put(nil, "nil")
	wantNone(t, pointers, same)
	wantGet(t, pointers, one, "one")
	wantGet(t, pointers, nil, "nil")

	floats := newCache[float64, string](t, 3)
	floats.Put(math.Inf(1), "endless")
	floats.Put(0, "zero")
	floats.Put(math.Copysign(0, -1), "minus zero")
	wantGet(t, floats, 0, "minus zero")
	wantGet(t, floats, math.Inf(1), "endless")
	wantKeys(t, floats, math.Inf(1), 0)

	bytes := newCache[string, int](t, 3)
	bytes.Put("\x00", 1)
	bytes.Put("\x00\x00", 2)
	bytes.Put("\xff", 3)
	wantGet(t, bytes, "\x00", 1)
	wantNone(t, bytes, "\xfe")
	wantNone(t, bytes, "\ufffd")
}

func TestKeysThatReadAlikeAreDifferent(t *testing.T) {
	c := newCache[any, int](t, 8)
	keys := []any{1, int8(1), uint(1), 1.0, "1", [1]int{1}, true, nil}
	for i, k := range keys {
		c.Put(k, i)
	}
	for i, k := range keys {
		wantGet(t, c, k, i)
	}
	wantNone(t, c, any(int16(1)))
}

func TestValuesThatAreListsOrNil(t *testing.T) {
	c := newCache[int, []int](t, 2)
	if v, ok := c.Get(1); v != nil || ok {
		t.Errorf("Get of a missing key = %v, %t, want nil, false", v, ok)
	}
	c.Put(1, []int{4, 5})
	c.Put(2, nil)
	if v, ok := c.Get(1); !slices.Equal(v, []int{4, 5}) || !ok {
		t.Errorf("Get(1) = %v, %t, want [4 5], true", v, ok)
	}
	if v, ok := c.Get(2); v != nil || !ok {
		t.Errorf("Get(2) = %v, %t, want nil, true", v, ok)
	}
}

// P1 and P3 against a plain model of the promise: a list that is searched.

type model struct {
	capacity int
	keys     []int
	values   map[int]int
}

func (m *model) touch(key int) bool {
	at := slices.Index(m.keys, key)
	if at >= 0 {
		m.keys = slices.Delete(m.keys, at, at+1)
	}
	m.keys = slices.Insert(m.keys, 0, key)
	return at >= 0
}

func (m *model) put(key, value int) {
	m.touch(key)
	m.values[key] = value
	if len(m.keys) > m.capacity {
		delete(m.values, m.keys[m.capacity])
		m.keys = m.keys[:m.capacity]
	}
}

func (m *model) get(key int) (int, bool) {
	if !slices.Contains(m.keys, key) {
		return 0, false
	}
	m.touch(key)
	return m.values[key], true
}

// step does one of 2*keys things, to the cache and to the model.
func step(t *testing.T, c *lru.Cache[int, int], m *model, what, keys, value int) {
	t.Helper()
	key := what % keys
	if what >= keys {
		c.Put(key, value)
		m.put(key, value)
		return
	}
	v, ok := c.Get(key)
	if want, there := m.get(key); v != want || ok != there {
		t.Fatalf("Get(%d) = %d, %t, want %d, %t", key, v, ok, want, there)
	}
}

func TestAllShortRuns(t *testing.T) {
	const keys, length = 3, 6
	runs := 1
	for range length {
		runs *= 2 * keys
	}
	for capacity := 1; capacity <= keys; capacity++ {
		for run := range runs {
			c := newCache[int, int](t, capacity)
			m := &model{capacity: capacity, values: map[int]int{}}
			rest := run
			for i := range length {
				step(t, c, m, rest%(2*keys), keys, i+1)
				rest /= 2 * keys
			}
			wantKeys(t, c, m.keys...)
		}
	}
}

func TestLongRuns(t *testing.T) {
	for _, capacity := range []int{1, 2, 3, 8, 63, 64} {
		r := rand.New(rand.NewSource(int64(capacity)))
		c := newCache[int, int](t, capacity)
		m := &model{capacity: capacity, values: map[int]int{}}
		keys := capacity + 1 + capacity/2
		for i := range 140_000 {
			step(t, c, m, r.Intn(2*keys), keys, i+1)
			if i%97 == 0 {
				wantKeys(t, c, m.keys...)
			}
		}
		wantKeys(t, c, m.keys...)
	}
}

// P2: an answer is new memory, and what is handed in is left alone.

// spoil writes into a list and into its spare room.
func spoil(l []int) {
	l = l[:cap(l)]
	for i := range l {
		l[i] = -7
	}
	_ = append(l, -8)
}

func TestCallerMayWriteIntoKeys(t *testing.T) {
	for _, n := range []int{1, 2, 5, 64} {
		c := newCache[int, string](t, n)
		spoil(c.Keys())
		var want []int
		for i := range n {
			c.Put(i, strconv.Itoa(i))
			want = slices.Insert(want, 0, i)
			kept := c.Keys()
			spoil(c.Keys())
			if !slices.Equal(kept, want) {
				t.Fatalf("a list of keys changed to %v, want %v", kept, want)
			}
			wantKeys(t, c, want...)
		}
		for i := range n {
			wantGet(t, c, i, strconv.Itoa(i))
		}
		wantNone(t, c, -7)
		wantNone(t, c, -8)
	}
}

func TestKeysThatCameOutStay(t *testing.T) {
	c := newCache[int, string](t, 3)
	c.Put(1, "a")
	c.Put(2, "b")
	c.Put(3, "c")
	before := c.Keys()
	wantGet(t, c, 1, "a")
	c.Put(4, "d")
	if !slices.Equal(before, []int{3, 2, 1}) {
		t.Errorf("the keys told before changed to %v", before)
	}
}

func TestValueHandedInIsNotWrittenInto(t *testing.T) {
	room := []int{1, 2, 3, 4}
	c := newCache[int, []int](t, 1)
	c.Put(1, room[:2])
	c.Get(1)
	c.Put(1, []int{9})
	c.Put(1, room[:2])
	c.Put(2, []int{8})
	c.Put(3, nil)
	if !slices.Equal(room, []int{1, 2, 3, 4}) {
		t.Errorf("the list that was handed in changed to %v", room)
	}
}

func TestRefusedNewTouchesNoCache(t *testing.T) {
	c := newCache[int, string](t, 2)
	c.Put(1, "a")
	for _, n := range []int{0, 65} {
		if d, e := lru.New[int, string](n); d != nil || e != api.ErrSize {
			t.Fatalf("New(%d) = %v, %d, want nil, ErrSize", n, d, e)
		}
	}
	c.Put(2, "b")
	wantKeys(t, c, 2, 1)
	wantGet(t, c, 1, "a")
}

// P2: caches side by side.

func TestCachesDoNotTouchOneAnother(t *testing.T) {
	a, b := newCache[int, string](t, 2), newCache[int, string](t, 2)
	other := newCache[int, int](t, 1)
	a.Put(1, "a1")
	wantKeys(t, b)
	wantNone(t, b, 1)
	b.Put(1, "b1")
	b.Put(2, "b2")
	other.Put(1, 11)
	a.Put(3, "a3")
	wantKeys(t, a, 3, 1)
	wantKeys(t, b, 2, 1)
	wantKeys(t, other, 1)
	wantGet(t, a, 1, "a1")
	wantGet(t, b, 1, "b1")
	wantGet(t, other, 1, 11)
	spoil(a.Keys())
	wantKeys(t, b, 1, 2)
	late := newCache[int, string](t, 2)
	wantKeys(t, late)
	late.Put(9, "late")
	wantKeys(t, a, 1, 3)
	wantKeys(t, b, 1, 2)
}

// script tells all that a cache answers while the same things are done with it.
func script(capacity int) []int {
	c, _ := lru.New[int, int](capacity)
	r := rand.New(rand.NewSource(5))
	var told []int
	for i := range 500 {
		key := r.Intn(2*capacity + 1)
		if r.Intn(2) == 0 {
			c.Put(key, i)
		} else if v, ok := c.Get(key); ok {
			told = append(told, v)
		}
		told = append(told, c.Keys()...)
	}
	return told
}

func TestSameDeedsSameAnswers(t *testing.T) {
	for _, capacity := range []int{1, 7, 64} {
		want := script(capacity)
		got := make([][]int, 8)
		var all sync.WaitGroup
		for i := range got {
			all.Go(func() { got[i] = script(capacity) })
		}
		all.Wait()
		for i := range got {
			if !slices.Equal(got[i], want) {
				t.Fatalf("capacity %d: run %d told other things than the first", capacity, i)
			}
		}
	}
}
