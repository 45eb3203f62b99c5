package demo_test

import (
	"math"
	"math/rand"
	"slices"
	"strings"
	"testing"

	"encore/api"
	"encore/demo"
	"encore/world"
)

var (
	nan   = float32(math.NaN())
	inf   = float32(math.Inf(1))
	minus = float32(math.Copysign(0, -1)) // the zero below zero
	huge  = float32(math.MaxFloat32)
	tiny  = float32(math.SmallestNonzeroFloat32)
)

// Integers that are small ones again, if they are cut to 8, 16 or 32 bits.
var wildInts = []int{math.MinInt, -1 << 32, -1<<32 + 1, -1 << 31, -256, -255, -1, 0, 256, 257, 1 << 16, 1<<16 + 1, 1 << 32, 1<<32 + 1, 1<<32 + 2, 1 << 62, math.MaxInt}

func spawn(id, team int, x, y float32) api.Command {
	return api.Command{Kind: 1, ID: id, Team: team, X: x, Y: y}
}

func push(id int, x, y float32) api.Command { return api.Command{Kind: 2, ID: id, X: x, Y: y} }

func hit(id, n int) api.Command { return api.Command{Kind: 3, ID: id, N: n} }

func leave(id int) api.Command { return api.Command{Kind: 4, ID: id} }

func times(n int, c api.Command) []api.Command {
	return slices.Repeat([]api.Command{c}, n)
}

// Numbers are held against each other by their bits: a NaN in a command must
// stay as it is, and a zero has its sign.
func sameEntity(a, b api.Entity) bool {
	bits := func(e api.Entity) [4]uint32 {
		return [4]uint32{math.Float32bits(e.X), math.Float32bits(e.Y), math.Float32bits(e.VX), math.Float32bits(e.VY)}
	}
	return a.ID == b.ID && a.Team == b.Team && a.Health == b.Health && bits(a) == bits(b)
}

func sameCommand(a, b api.Command) bool {
	return a.Kind == b.Kind && a.ID == b.ID && a.Team == b.Team && a.N == b.N &&
		math.Float32bits(a.X) == math.Float32bits(b.X) && math.Float32bits(a.Y) == math.Float32bits(b.Y)
}

func sameWorld(a, b api.World) bool {
	return a.Tick == b.Tick && slices.EqualFunc(a.Entities, b.Entities, sameEntity)
}

func newRecorder(t *testing.T, every int) *demo.Recorder {
	t.Helper()
	r, e := demo.NewRecorder(every)
	if r == nil || e != 0 {
		t.Fatalf("NewRecorder(%d) = %v, %d, want a recorder, OK", every, r, e)
	}
	return r
}

// record hands commands to a recorder, with spare room that is filled behind
// them, and tells a copy of what it answers. Behind that it writes all over
// the commands and the answer, their spare room too: whatever of them the
// recorder has kept shows later.
func record(t *testing.T, r *demo.Recorder, l []api.Command) (api.World, api.Errno) {
	t.Helper()
	given := append(make([]api.Command, 0, len(l)+20), l...)
	room := given[:cap(given)]
	for i := len(l); i < len(room); i++ {
		room[i] = spawn(i%32, 1, 2, 3)
	}
	before := slices.Clone(room)
	answer, e := r.Record(given)
	if !slices.EqualFunc(room, before, sameCommand) {
		t.Fatalf("Record: the commands handed in are %+v, were %+v", room, before)
	}
	got := copyOf(answer)
	for i := range room {
		room[i] = leave(i % 32)
	}
	spoil(answer)
	return got, e
}

// match is a recorder, and beside it what must be true of it.
type match struct {
	*demo.Recorder
	now  api.World
	file string
}

func newMatch(t *testing.T, every int) *match {
	t.Helper()
	m := &match{Recorder: newRecorder(t, every)}
	m.file = strings.Clone(m.File())
	return m
}

// next records a tick, whatever comes of it, and tells what it adds to the
// file.
func (m *match) next(t *testing.T, l []api.Command) string {
	t.Helper()
	want, wantErr := world.Step(m.now, l)
	got, e := record(t, m.Recorder, l)
	if !sameWorld(got, want) || e != wantErr {
		t.Fatalf("Record(%+v) at %+v\n = %+v, %d,\nwant %+v, %d", l, m.now, got, e, want, wantErr)
	}
	file := m.File()
	added, begins := strings.CutPrefix(file, m.file)
	if !begins {
		t.Fatalf("Record(%+v) at tick %d: the file was\n%q\nand is\n%q", l, m.now.Tick, m.file, file)
	}
	if (added == "") != (e != 0) {
		t.Fatalf("Record(%+v) at tick %d answers %d, and adds %q to the file", l, m.now.Tick, e, added)
	}
	if e == 0 {
		m.now, m.file = want, strings.Clone(file)
	}
	return added
}

// wantNothing records what must be an error.
func (m *match) wantNothing(t *testing.T, l []api.Command, want api.Errno) {
	t.Helper()
	got, e := record(t, m.Recorder, l)
	if !sameWorld(got, api.World{}) || e != want {
		t.Errorf("Record of %d commands at tick %d = %+v, %d, want zeros, %d", len(l), m.now.Tick, got, e, want)
	}
	if m.File() != m.file {
		t.Errorf("Record of %d commands at tick %d: an error, but the file is another", len(l), m.now.Tick)
	}
}

// drawn draws commands: most can be done, some have numbers at the bounds or
// beyond them.
type drawn struct{ *rand.Rand }

func (d drawn) point(bound float32) float32 {
	if d.Intn(8) > 0 {
		return (d.Float32()*2 - 1) * bound
	}
	l := []float32{bound, -bound, 0, minus, tiny, -tiny, huge, -huge, inf, -inf, nan}
	return l[d.Intn(len(l))]
}

func (d drawn) int(low, high int) int {
	if d.Intn(15) > 0 {
		return low + d.Intn(high-low+1)
	}
	return wildInts[d.Intn(len(wildInts))]
}

func (d drawn) command() api.Command {
	c := api.Command{Kind: d.int(1, 4), ID: d.int(0, 31), Team: d.int(0, 1), N: d.int(1, 40)}
	c.X, c.Y = d.point(1000), d.point(1000)
	if c.Kind == api.Push {
		c.X, c.Y = d.point(100), d.point(100)
	}
	return c
}

func (d drawn) commands() []api.Command {
	var l []api.Command
	n := d.Intn(6)
	if d.Intn(20) == 0 {
		n = d.Intn(67)
	}
	for range n {
		l = append(l, d.command())
	}
	return l
}
