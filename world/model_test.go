package world_test

import (
	"math/rand"
	"sync"
	"testing"

	"encore/api"
	"encore/world"
)

// A plain second writing of P4 to P6, with other means: a place for each ID,
// and reckoning in float64, which holds a product of two float32 exactly, and
// a sum well enough that rounding it once more gives the float32 sum.

func add(a, b float32) float32 { return float32(float64(a) + float64(b)) }
func sub(a, b float32) float32 { return float32(float64(a) - float64(b)) }
func mul(a, b float32) float32 { return float32(float64(a) * float64(b)) }

func modelFits(x float32, bound float64) bool {
	if x != x {
		return false
	}
	return !(float64(x) < -bound) && !(float64(x) > bound)
}

func modelIsWorld(w api.World) bool {
	ok := 0 <= w.Tick && w.Tick <= 500
	before := -1
	for _, e := range w.Entities {
		ok = ok && before < e.ID && e.ID < 32
		ok = ok && (e.Team == 0 || e.Team == 1)
		ok = ok && modelFits(e.X, 1000) && modelFits(e.Y, 1000)
		ok = ok && modelFits(e.VX, 1e39) && modelFits(e.VY, 1e39) // 1e39 is no float32, but less than Inf
		ok = ok && 0 < e.Health && e.Health < 101
		before = e.ID
	}
	return ok
}

func modelDo(at *[32]*api.Entity, c api.Command) {
	if c.ID < 0 || c.ID > 31 {
		return
	}
	e := at[c.ID]
	switch {
	case c.Kind == 1 && e == nil && (c.Team == 0 || c.Team == 1) && modelFits(c.X, 1000) && modelFits(c.Y, 1000):
		at[c.ID] = &api.Entity{ID: c.ID, Team: c.Team, X: c.X, Y: c.Y, Health: 100}
	case c.Kind == 2 && e != nil && modelFits(c.X, 100) && modelFits(c.Y, 100):
		e.VX, e.VY = add(e.VX, c.X), add(e.VY, c.Y)
	case c.Kind == 3 && e != nil && 0 < c.N && c.N < 101:
		e.Health -= c.N
	case c.Kind == 4 && e != nil:
		at[c.ID] = nil
	}
}

func modelMove(x, v *float32) {
	*x = add(*x, *v)
	if *x < -1000 {
		*x, *v = -1000, mul(*v, -0.5)
	}
	if *x > 1000 {
		*x, *v = 1000, mul(*v, -0.5)
	}
	*v = mul(*v, 0.75)
}

func modelStep(w api.World, l []api.Command) (api.World, api.Errno) {
	if !modelIsWorld(w) || w.Tick == 500 {
		return api.World{}, 2
	}
	if len(l) >= 65 {
		return api.World{}, 1
	}
	var at [32]*api.Entity
	for _, e := range w.Entities {
		at[e.ID] = &e
	}
	for _, c := range l {
		modelDo(&at, c)
	}
	out := api.World{Tick: w.Tick + 1}
	for _, e := range at {
		if e != nil && e.Health > 0 {
			modelMove(&e.X, &e.VX)
			modelMove(&e.Y, &e.VY)
			out.Entities = append(out.Entities, *e)
		}
	}
	return out, 0
}

func modelSeen(w api.World, id int, far float32) (api.World, api.Errno) {
	if !modelIsWorld(w) {
		return api.World{}, 2
	}
	var me *api.Entity
	for _, e := range w.Entities {
		if e.ID == id {
			me = &e
		}
	}
	if me == nil {
		return api.World{}, 5
	}
	if far != far || far < 0 {
		return api.World{}, 4
	}
	out := api.World{Tick: w.Tick}
	for _, e := range w.Entities {
		dx, dy := sub(e.X, me.X), sub(e.Y, me.Y)
		hidden := e.Team != me.Team && add(mul(dx, dx), mul(dy, dy)) > mul(far, far)
		if !hidden {
			out.Entities = append(out.Entities, e)
		}
	}
	return out, 0
}

// drawn draws numbers: most are ordinary ones, some lie at the bounds or
// beyond them.
type drawn struct{ *rand.Rand }

func (d drawn) one(wild int, ordinary func() int, edges ...int) int {
	if d.Intn(wild) > 0 {
		return ordinary()
	}
	if d.Intn(2) == 0 {
		return wildInts[d.Intn(len(wildInts))]
	}
	return edges[d.Intn(len(edges))]
}

func (d drawn) point(wild int, bound float32) float32 {
	if d.Intn(wild) > 0 {
		return (d.Float32()*2 - 1) * bound
	}
	l := []float32{bound, -bound, above(bound), below(bound), above(-bound), below(-bound), 0, minus, tiny, -tiny, huge, -huge, inf, -inf, nan}
	return l[d.Intn(len(l))]
}

func (d drawn) command(wild int) api.Command {
	return api.Command{
		Kind: d.one(wild, func() int { return []int{1, 1, 2, 2, 2, 3, 4}[d.Intn(7)] }, 0, 1, 2, 3, 4, 5, -1),
		ID:   d.one(wild, func() int { return d.Intn(32) }, -1, 0, 31, 32),
		Team: d.one(wild, func() int { return d.Intn(2) }, -1, 0, 1, 2),
		X:    d.point(wild, 100),
		Y:    d.point(wild, 100),
		N:    d.one(wild, func() int { return 1 + d.Intn(40) }, -1, 0, 1, 99, 100, 101),
	}
}

func (d drawn) commands(wild int) []api.Command {
	l := make([]api.Command, d.one(wild, func() int { return d.Intn(12) }, 0, 63, 64, 65, 66)&127)
	for i := range l {
		l[i] = d.command(wild)
	}
	return l
}

func (d drawn) entity(wild, id int) api.Entity {
	return api.Entity{
		ID:     d.one(wild, func() int { return id }, -1, 0, 31, 32),
		Team:   d.one(wild, func() int { return d.Intn(2) }, -1, 0, 1, 2),
		X:      d.point(wild, 1000),
		Y:      d.point(wild, 1000),
		VX:     d.point(wild, 300),
		VY:     d.point(wild, 300),
		Health: d.one(wild, func() int { return 1 + d.Intn(100) }, -1, 0, 1, 100, 101),
	}
}

func (d drawn) world(wild int) api.World {
	w := api.World{Tick: d.one(wild, func() int { return d.Intn(501) }, -1, 0, 499, 500, 501)}
	for id := range 32 {
		if d.Intn(4) == 0 {
			w.Entities = append(w.Entities, d.entity(wild, id))
		}
	}
	return w
}

func wantStepOfModel(t *testing.T, w api.World, l []api.Command) (api.World, api.Errno) {
	t.Helper()
	want, wantErr := modelStep(w, l)
	got, e := callStep(t, w, l)
	if !sameWorld(got, want) || e != wantErr {
		t.Fatalf("Step(%+v, %+v)\n = %+v, %d,\nwant %+v, %d", w, l, got, e, want, wantErr)
	}
	return got, e
}

func wantSeenOfModel(t *testing.T, w api.World, id int, far float32) {
	t.Helper()
	want, wantErr := modelSeen(w, id, far)
	if got, e := callSeen(t, w, id, far); !sameWorld(got, want) || e != wantErr {
		t.Fatalf("Seen(%+v, %d, %v)\n = %+v, %d,\nwant %+v, %d", w, id, far, got, e, want, wantErr)
	}
}

// Whole matches, from the first tick to the last. What Step answers is a world
// again, as long as there are ticks.
func TestMatchesOfModel(t *testing.T) {
	for seed := range int64(40) {
		d := drawn{rand.New(rand.NewSource(seed))}
		w := api.World{}
		for w.Tick < 500 {
			next, e := wantStepOfModel(t, w, d.commands(30))
			if e == api.ErrWorld {
				t.Fatalf("Step of its own answer %+v: ErrWorld", w)
			}
			if e == api.OK {
				w = next
			}
			wantSeenOfModel(t, w, d.Intn(32), d.Float32()*1500)
		}
		wantStepOfModel(t, w, d.commands(30))
	}
}

// Worlds and arguments that are right about as often as they are wrong.
func TestDrawnWorldsOfModel(t *testing.T) {
	counted := map[api.Errno]int{}
	for seed := range int64(40) {
		d := drawn{rand.New(rand.NewSource(seed))}
		for range 500 {
			w := d.world(60)
			_, e := wantStepOfModel(t, w, d.commands(5))
			counted[e]++
			for range 4 {
				id := d.one(9, func() int { return d.Intn(32) }, -1, 0, 31, 32)
				wantSeenOfModel(t, w, id, d.point(3, 2000))
			}
		}
	}
	for _, e := range []api.Errno{api.OK, api.ErrSize, api.ErrWorld} {
		if counted[e] < 100 {
			t.Errorf("only %d draws answer %d: the test looks at too little", counted[e], e)
		}
	}
}

// P2: nothing goes from one call to another, not even from goroutine to
// goroutine.
func TestCallsSideBySide(t *testing.T) {
	var all sync.WaitGroup
	for seed := range int64(8) {
		all.Add(1)
		go func() {
			defer all.Done()
			d := drawn{rand.New(rand.NewSource(seed))}
			w := api.World{}
			for w.Tick < 500 {
				l := d.commands(1000)
				want, wantErr := modelStep(w, l)
				got, e := world.Step(w, l)
				if !sameWorld(got, want) || e != wantErr {
					t.Errorf("Step(%+v, %+v) = %+v, %d, want %+v, %d", w, l, got, e, want, wantErr)
					return
				}
				if e == api.OK {
					w = got
				}
			}
		}()
	}
	all.Wait()
}
