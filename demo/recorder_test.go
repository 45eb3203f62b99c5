package demo_test

import (
	"math"
	"math/rand"
	"slices"
	"strings"
	"sync"
	"testing"

	"encore/api"
	"encore/demo"
	"encore/world"
)

// P7: NewRecorder and Record. Of P8: File.

func TestNewRecorder(t *testing.T) {
	for every := 1; every <= 64; every++ {
		r := newRecorder(t, every)
		if r.File() == "" || r.File() != newRecorder(t, every).File() {
			t.Errorf("NewRecorder(%d): the file is %q, and of another %q", every, r.File(), newRecorder(t, every).File())
		}
	}
}

func TestNewRecorderRefused(t *testing.T) {
	refused := []int{-100, -65, -64, -2, 65, 66, 100, 128, 500, 1<<32 + 64, math.MinInt + 64}
	for _, every := range append(refused, wildInts...) {
		if r, e := demo.NewRecorder(every); r != nil || e != 1 {
			t.Errorf("NewRecorder(%d) = %v, %d, want nil, ErrSize", every, r, e)
		}
	}
}

func wantRecord(t *testing.T, r *demo.Recorder, l []api.Command, want api.World) {
	t.Helper()
	if got, e := record(t, r, l); !sameWorld(got, want) || e != 0 {
		t.Fatalf("Record(%+v) = %+v, %d, want %+v, OK", l, got, e, want)
	}
}

func TestRecordOfNothing(t *testing.T) {
	for every := 1; every <= 64; every++ {
		r := newRecorder(t, every)
		for tick := 1; tick <= 3; tick++ {
			wantRecord(t, r, nil, api.World{Tick: tick})
		}
		wantRecord(t, r, []api.Command{}, api.World{Tick: 4})
	}
}

func TestRecordGoesOnFromTheLastWorld(t *testing.T) {
	r := newRecorder(t, 2)
	wantRecord(t, r, []api.Command{push(3, 1, 1), hit(3, 1), leave(3)}, api.World{Tick: 1})
	wantRecord(t, r, []api.Command{spawn(3, 0, 10, 999), push(3, 4, 2)},
		api.World{Tick: 2, Entities: []api.Entity{{ID: 3, X: 14, Y: 1000, VX: 3, VY: -0.75, Health: 100}}})
	wantRecord(t, r, nil,
		api.World{Tick: 3, Entities: []api.Entity{{ID: 3, X: 17, Y: 999.25, VX: 2.25, VY: -0.5625, Health: 100}}})
	wantRecord(t, r, []api.Command{hit(3, 99), spawn(1, 1, -5, 5)},
		api.World{Tick: 4, Entities: []api.Entity{
			{ID: 1, Team: 1, X: -5, Y: 5, Health: 100},
			{ID: 3, X: 19.25, Y: 998.6875, VX: 1.6875, VY: -0.421875, Health: 1}}})
	wantRecord(t, r, []api.Command{hit(3, 1), leave(1)}, api.World{Tick: 5})
}

func TestRecordOfTooManyCommands(t *testing.T) {
	for _, every := range []int{1, 2, 64} {
		m := newMatch(t, every)
		for range 5 {
			for _, n := range []int{65, 66, 128, 1 << 16} {
				m.wantNothing(t, times(n, spawn(7, 0, 1, 1)), 1)
				m.wantNothing(t, make([]api.Command, n), 1)
			}
			m.next(t, append(times(1, spawn(9, 1, -50, minus)), times(63, push(9, 1.5, -1.5))...))
			m.next(t, times(64, hit(9, 1)))
			m.next(t, times(63, api.Command{}))
		}
	}
}

func TestRecordBehindTheLastTick(t *testing.T) {
	for _, every := range []int{1, 3, 4, 64} {
		m := newMatch(t, every)
		for tick := range 500 {
			m.next(t, []api.Command{spawn(tick%32, tick%2, float32(tick), 0.5), push(3, 1, tiny)})
		}
		if m.now.Tick != 500 {
			t.Fatalf("after 500 ticks: %d", m.now.Tick)
		}
		for range 3 {
			m.wantNothing(t, nil, 2)
			m.wantNothing(t, []api.Command{leave(3)}, 2)
			m.wantNothing(t, times(64, leave(3)), 2)
			m.wantNothing(t, times(65, leave(3)), 2)
		}
	}
}

func TestDrawnMatches(t *testing.T) {
	for seed := range int64(40) {
		d := drawn{rand.New(rand.NewSource(seed))}
		m := newMatch(t, 1+d.Intn(64))
		for range 530 {
			m.next(t, d.commands())
		}
		if m.now.Tick != 500 {
			t.Errorf("seed %d: the match ends at tick %d", seed, m.now.Tick)
		}
	}
}

// An error leaves the recorder at the world that it was at.
func TestErrorsAreNotInTheMatch(t *testing.T) {
	d := drawn{rand.New(rand.NewSource(1))}
	plain, other := newMatch(t, 3), newMatch(t, 3)
	for range 200 {
		l := d.commands()
		plain.next(t, l)
		other.wantNothing(t, times(65, leave(d.Intn(32))), 1)
		other.next(t, l)
		other.wantNothing(t, times(70, spawn(d.Intn(32), 0, 1, 1)), 1)
	}
	if plain.file != other.file {
		t.Error("by errors the file is another")
	}
}

// P2: what is done with one recorder does not touch another, and what was done
// alike has one file.
func TestRecordersTakingTurns(t *testing.T) {
	const n = 5
	var ms, again [n]*match
	var ds [n]drawn
	for i := range ms {
		ms[i], again[i] = newMatch(t, i+1), newMatch(t, i+1)
		ds[i] = drawn{rand.New(rand.NewSource(int64(i)))}
	}
	turn := rand.New(rand.NewSource(99))
	for range 1000 {
		i := turn.Intn(n)
		l := ds[i].commands()
		ms[i].next(t, l)
		for _, m := range ms {
			if m.File() != m.file {
				t.Fatal("a Record of another recorder has changed a file")
			}
		}
		again[i].next(t, l)
	}
	for i := range ms {
		if ms[i].file != again[i].file {
			t.Errorf("two files of the same commands:\n%q\n%q", ms[i].file, again[i].file)
		}
	}
}

func TestRecordersSideBySide(t *testing.T) {
	var all sync.WaitGroup
	for seed := range int64(8) {
		all.Go(func() {
			d := drawn{rand.New(rand.NewSource(seed))}
			r, e := demo.NewRecorder(1 + d.Intn(5))
			if e != 0 {
				t.Errorf("NewRecorder: %d", e)
				return
			}
			now := api.World{}
			for now.Tick < 500 {
				l := d.commands()
				want, wantErr := world.Step(now, l)
				got, e := r.Record(l)
				if !sameWorld(got, want) || e != wantErr {
					t.Errorf("Record(%+v) at %+v = %+v, %d, want %+v, %d", l, now, got, e, want, wantErr)
					return
				}
				if e == 0 {
					now = want
				}
			}
		})
	}
	all.Wait()
}

// P2: two answers, and what the recorder goes on from, share no memory, not
// even behind their ends.
func TestAnswersAreNewMemory(t *testing.T) {
	r := newRecorder(t, 2)
	var answers, copies []api.World
	for i := range 60 {
		w, e := r.Record([]api.Command{spawn(i%32, i%2, 1, 2), push(i%7, 3, 4), leave(i % 5)})
		if e != 0 {
			t.Fatalf("Record: %d", e)
		}
		answers = append(answers, w)
		copies = append(copies, copyOf(w))
	}
	for i, w := range answers {
		if !sameWorld(w, copies[i]) {
			t.Fatalf("the answer of tick %d is %+v, was %+v", copies[i].Tick, w, copies[i])
		}
		spoil(w)
	}
}

// P8: a file that was told stays as it was told.
func TestFilesThatWereToldStay(t *testing.T) {
	d := drawn{rand.New(rand.NewSource(5))}
	r := newRecorder(t, 4)
	var told, copies []string
	for range 300 {
		for range 2 {
			told = append(told, r.File())
			copies = append(copies, strings.Clone(r.File()))
		}
		record(t, r, d.commands())
	}
	if !slices.Equal(told, copies) {
		t.Error("a file that was told has changed")
	}
}
