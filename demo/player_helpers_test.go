package demo_test

import (
	"math/big"
	"slices"
	"testing"

	"encore/api"
	"encore/demo"
)

// recording is a file, and beside it what was recorded: the worlds, the one at
// the tick 0 first, and how long the file was at each of them.
type recording struct {
	file   string
	worlds []api.World
	stands []int
}

// newRecording records lists of commands; those that are refused leave no
// trace in it.
func newRecording(t *testing.T, every int, lists ...[]api.Command) recording {
	t.Helper()
	m := newMatch(t, every)
	r := recording{worlds: []api.World{{}}, stands: []int{len(m.file)}}
	for _, l := range lists {
		if m.next(t, l) != "" {
			r.worlds = append(r.worlds, m.now)
			r.stands = append(r.stands, len(m.file))
		}
	}
	r.file = m.file
	return r
}

func drawnRecording(t *testing.T, d drawn, every, ticks int) recording {
	t.Helper()
	var lists [][]api.Command
	for len(lists) < ticks {
		if l := d.commands(); len(l) <= 64 {
			lists = append(lists, l)
		}
	}
	return newRecording(t, every, lists...)
}

// player is a player, and beside it what must be true of it.
type player struct {
	*demo.Player
	worlds []api.World
	at     int
}

// open opens a file that must be one of these worlds.
func open(t *testing.T, file string, worlds []api.World) *player {
	t.Helper()
	p, e := demo.Open(file)
	if p == nil || e != 0 {
		t.Fatalf("Open(%q) = %v, %d, want a player, OK", file, p, e)
	}
	shows := &player{Player: p, worlds: worlds}
	shows.wantState(t)
	return shows
}

func (p *player) wantState(t *testing.T) {
	t.Helper()
	if p.Ticks() != len(p.worlds)-1 || p.At() != p.at {
		t.Fatalf("%d ticks, at %d, want %d, at %d", p.Ticks(), p.At(), len(p.worlds)-1, p.at)
	}
}

func (p *player) seek(t *testing.T, tick int) {
	t.Helper()
	got, e := p.Seek(tick)
	p.wantShown(t, got, e, big.NewInt(int64(tick)))
}

func (p *player) move(t *testing.T, by int) {
	t.Helper()
	got, e := p.Move(by)
	p.wantShown(t, got, e, new(big.Int).Add(big.NewInt(int64(p.at)), big.NewInt(int64(by))))
}

// wantShown holds an answer against what it must be, if this tick was asked
// for, and writes all over it: whatever of it the player has kept shows later.
func (p *player) wantShown(t *testing.T, got api.World, e api.Errno, tick *big.Int) {
	t.Helper()
	want, wantErr := api.World{}, api.Errno(4)
	if tick.Sign() >= 0 && tick.Cmp(big.NewInt(int64(len(p.worlds)))) < 0 {
		p.at = int(tick.Int64())
		want, wantErr = p.worlds[p.at], 0
	}
	if !sameWorld(got, want) || e != wantErr {
		t.Fatalf("of the tick %v: %+v, %d, want %+v, %d", tick, got, e, want, wantErr)
	}
	p.wantState(t)
	spoil(got)
}

// spoil writes all over a world, its spare room too.
func spoil(w api.World) {
	spare := w.Entities[:cap(w.Entities)]
	for i := range spare {
		spare[i] = api.Entity{ID: -99, Team: -99, X: nan, Y: nan, VX: nan, VY: nan, Health: -99}
	}
}

func wantNoFile(t *testing.T, file string) {
	t.Helper()
	if p, e := demo.Open(file); p != nil || e != 3 {
		t.Errorf("Open(%q) = %v, %d, want nil, ErrFile", file, p, e)
	}
}

func copyOf(w api.World) api.World {
	return api.World{Tick: w.Tick, Entities: slices.Clone(w.Entities)}
}
