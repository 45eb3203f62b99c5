package demo

import (
	"slices"
	"testing"

	"encore/api"
)

// Section 'Ways': the worlds that were shown last are kept in a cache. Nothing
// of it shows in an answer, so this looks inside.
func TestThePlayerKeepsWhatItHasShown(t *testing.T) {
	for _, every := range []int{1, 5, 64} {
		r, _ := NewRecorder(every)
		for range 100 {
			r.Record([]api.Command{{Kind: api.Spawn, ID: 1, X: 5, Y: 6}, {Kind: api.Push, ID: 1, X: 1, Y: 1}})
		}
		p, _ := Open(r.File())
		wantKept(t, p)
		var shown []int
		for i := range 80 {
			tick := i * 37 % 101
			p.Seek(tick)
			p.Seek(101)
			p.Move(-101)
			shown = slices.Insert(shown, 0, tick)
		}
		if kept := p.shown.Keys(); len(kept) != api.MaxCache || kept[0] != shown[0] {
			t.Errorf("every %d: %d worlds are kept, the last one of the tick %d", every, len(kept), kept[0])
		}
		wantKept(t, p, shown...)
	}
}

// wantKept: what is kept was shown, and is the world of its tick.
func wantKept(t *testing.T, p *Player, shown ...int) {
	t.Helper()
	for _, tick := range p.shown.Keys() {
		if w, _ := p.shown.Get(tick); w.Tick != tick || !slices.Contains(shown, tick) {
			t.Errorf("the world %+v is kept for the tick %d; shown were %v", w, tick, shown)
		}
	}
}

// A world that is kept is not played again: one that is put in its place is
// shown, and gone on from.
func TestThePlayerShowsWhatItKeeps(t *testing.T) {
	r, _ := NewRecorder(10)
	for range 25 {
		r.Record(nil)
	}
	p, _ := Open(r.File())
	p.Seek(13)
	p.shown.Put(13, api.World{Tick: 13, Entities: []api.Entity{{ID: 7, VX: 4, Health: 1}}})
	for _, c := range []struct {
		tick, entities int
		x              float32
	}{{13, 1, 0}, {14, 1, 4}, {13, 1, 0}, {12, 0, 0}, {15, 1, 7}, {20, 0, 0}, {21, 0, 0}} {
		w, e := p.Seek(c.tick)
		if e != api.OK || len(w.Entities) != c.entities || c.entities > 0 && w.Entities[0].X != c.x {
			t.Errorf("Seek(%d) = %+v, %d, want %d entities, at %v", c.tick, w, e, c.entities, c.x)
		}
	}
}
