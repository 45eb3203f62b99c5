package world_test

import (
	"math"
	"slices"
	"testing"

	"encore/api"
	"encore/world"
)

var (
	nan   = float32(math.NaN())
	inf   = float32(math.Inf(1))
	minus = float32(math.Copysign(0, -1)) // the zero below zero
	huge  = float32(math.MaxFloat32)
	tiny  = float32(math.SmallestNonzeroFloat32)
)

// Integers that are small ones again, if they are cut to 8, 16 or 32 bits.
var wildInts = []int{math.MinInt, math.MinInt + 1, -1 << 32, -1<<32 + 1, -1 << 31, -257, -256, 256, 257, 258, 259, 260, 1 << 16, 1<<16 + 1, 1 << 31, 1 << 32, 1<<32 + 1, 1<<32 + 2, 1 << 62, math.MaxInt - 1, math.MaxInt}

func above(x float32) float32 { return math.Nextafter32(x, inf) }
func below(x float32) float32 { return math.Nextafter32(x, -inf) }

func spawn(id, team int, x, y float32) api.Command {
	return api.Command{Kind: 1, ID: id, Team: team, X: x, Y: y}
}

func push(id int, x, y float32) api.Command { return api.Command{Kind: 2, ID: id, X: x, Y: y} }

func hit(id, n int) api.Command { return api.Command{Kind: 3, ID: id, N: n} }

func leave(id int) api.Command { return api.Command{Kind: 4, ID: id} }

func worldAt(tick int, l ...api.Entity) api.World { return api.World{Tick: tick, Entities: l} }

// still is an entity that does not move.
func still(id, team int, x, y float32) api.Entity {
	return api.Entity{ID: id, Team: team, X: x, Y: y, Health: 100}
}

// Numbers are held against each other by their bits: a NaN in an argument must
// stay as it is, and a zero has its sign.
func sameEntity(a, b api.Entity) bool {
	bits := func(e api.Entity) [4]uint32 {
		return [4]uint32{math.Float32bits(e.X), math.Float32bits(e.Y), math.Float32bits(e.VX), math.Float32bits(e.VY)}
	}
	return a.ID == b.ID && a.Team == b.Team && a.Health == b.Health && bits(a) == bits(b)
}

func sameCommand(a, b api.Command) bool {
	return a.Kind == b.Kind && a.ID == b.ID && a.Team == b.Team && a.N == b.N &&
		math.Float32bits(a.X) == math.Float32bits(b.X) && math.Float32bits(a.Y) == math.Float32bits(b.Y)
}

func sameWorld(a, b api.World) bool {
	return a.Tick == b.Tick && slices.EqualFunc(a.Entities, b.Entities, sameEntity)
}

func copyWorld(w api.World) api.World {
	return api.World{Tick: w.Tick, Entities: slices.Clone(w.Entities)}
}

// roomy tells a copy of a list, with spare room that is filled behind it.
func roomy[T any](l []T, filler T) []T {
	out := append(make([]T, 0, len(l)+40), l...)
	for i := len(l); i < cap(out); i++ {
		out[:cap(out)][i] = filler
	}
	return out
}

// spoil writes all over a list, its spare room too.
func spoil(l []api.Entity) {
	l = l[:cap(l)]
	for i := range l {
		l[i] = api.Entity{ID: -99, Team: -99, X: nan, Y: nan, VX: nan, VY: nan, Health: -99}
	}
}

// guard hands arguments to a call twice, and tells its answer. In between it
// spoils what was answered: neither may the arguments be changed by that, nor
// the second answer.
func guard(t *testing.T, w api.World, l []api.Command, call func(api.World, []api.Command) (api.World, api.Errno)) (api.World, api.Errno) {
	t.Helper()
	spareEntity := api.Entity{ID: 9, Team: 1, X: 2, Y: 3, VX: 4, VY: 5, Health: 6}
	spareCommand := api.Command{Kind: 1, ID: 9, Team: 1, X: 2, Y: 3, N: 4}
	given, room := roomy(w.Entities, spareEntity), roomy(w.Entities, spareEntity)
	commands, more := roomy(l, spareCommand), roomy(l, spareCommand)
	unchanged := func(when string) {
		t.Helper()
		if !slices.EqualFunc(given[:cap(given)], room[:cap(room)], sameEntity) {
			t.Fatalf("%s the entities handed in are %+v, were %+v", when, given[:cap(given)], room[:cap(room)])
		}
		if !slices.EqualFunc(commands[:cap(commands)], more[:cap(more)], sameCommand) {
			t.Fatalf("%s the commands handed in are %+v, were %+v", when, commands[:cap(commands)], more[:cap(more)])
		}
	}
	handed := api.World{Tick: w.Tick, Entities: given}
	first, e := call(handed, commands)
	unchanged("after the call")
	kept := copyWorld(first)
	second, again := call(handed, commands)
	if !sameWorld(second, kept) || again != e {
		t.Fatalf("the same call answers %+v, %d, and then %+v, %d", kept, e, second, again)
	}
	spoil(first.Entities)
	unchanged("after writing into the answer")
	if !sameWorld(second, kept) {
		t.Fatalf("two answers share memory: %+v, was %+v", second, kept)
	}
	return second, e
}

func callStep(t *testing.T, w api.World, l []api.Command) (api.World, api.Errno) {
	t.Helper()
	return guard(t, w, l, world.Step)
}

func callSeen(t *testing.T, w api.World, id int, far float32) (api.World, api.Errno) {
	t.Helper()
	return guard(t, w, nil, func(w api.World, _ []api.Command) (api.World, api.Errno) {
		return world.Seen(w, id, far)
	})
}

// wantStep is for steps that are OK; it tells the world after them.
func wantStep(t *testing.T, w api.World, l []api.Command, want ...api.Entity) api.World {
	t.Helper()
	got, e := callStep(t, w, l)
	if e != 0 || !sameWorld(got, worldAt(w.Tick+1, want...)) {
		t.Fatalf("Step(%+v, %+v)\n = %+v, %d,\nwant %+v, OK", w, l, got, e, worldAt(w.Tick+1, want...))
	}
	return got
}

func wantNoStep(t *testing.T, w api.World, l []api.Command, want api.Errno) {
	t.Helper()
	if got, e := callStep(t, w, l); e != want || !sameWorld(got, api.World{}) {
		t.Errorf("Step(%+v, %d commands) = %+v, %d, want zeros, %d", w, len(l), got, e, want)
	}
}

// wantSeen is for what is OK to ask; it wants the entities of these IDs, just
// as they are in the world.
func wantSeen(t *testing.T, w api.World, id int, far float32, ids ...int) {
	t.Helper()
	want := api.World{Tick: w.Tick}
	for _, e := range w.Entities {
		if slices.Contains(ids, e.ID) {
			want.Entities = append(want.Entities, e)
		}
	}
	if got, e := callSeen(t, w, id, far); e != 0 || !sameWorld(got, want) {
		t.Errorf("Seen(%+v, %d, %v)\n = %+v, %d,\nwant %+v, OK", w, id, far, got, e, want)
	}
}

func wantNotSeen(t *testing.T, w api.World, id int, far float32, want api.Errno) {
	t.Helper()
	if got, e := callSeen(t, w, id, far); e != want || !sameWorld(got, api.World{}) {
		t.Errorf("Seen(%+v, %d, %v) = %+v, %d, want zeros, %d", w, id, far, got, e, want)
	}
}
