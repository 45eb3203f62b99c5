package world_test

import (
	"testing"

	"encore/api"
)

// P5: Step. P6: Seen.

func TestExampleOfStep(t *testing.T) {
	w := wantStep(t, worldAt(0), []api.Command{spawn(3, 0, 10, 999), push(3, 4, 2)}, api.Entity{ID: 3, X: 14, Y: 1000, VX: 3, VY: -0.75, Health: 100})
	wantStep(t, w, nil, api.Entity{ID: 3, X: 17, Y: 999.25, VX: 2.25, VY: -0.5625, Health: 100})
}

func TestMoves(t *testing.T) {
	for _, c := range []struct{ place, way, wantPlace, wantWay float32 }{
		{0, 0, 0, 0},
		{10, 4, 14, 3},
		{10, -4, 6, -3},
		{999, 1, 1000, 0.75},
		{-999, -1, -1000, -0.75},
		{999, 2, 1000, -0.75},
		{-999, -2, -1000, 0.75},
		{1000, 0, 1000, 0},
		{-1000, 0, -1000, 0},
		{1000, -3000, -1000, 1125},
		{-1000, 3000, 1000, -1125},
		{1000, -2000, -1000, -1500},
		{-1000, 2000, 1000, 1500},
		// The sum is rounded ahead of being held against the edge.
		{1000, 3e-5, 1000, 2.25e-5},
		{-1000, -3e-5, -1000, -2.25e-5},
		{1000, 7e-5, 1000, -2.625e-5},
		{-1000, -7e-5, -1000, 2.625e-5},
		{0.1, 0.2, 0.3, 0.15},
		{1, 1e-9, 1, 7.4999995e-10},
		// The ends of what a way can be.
		{0, huge, 1000, -1.2760588e+38},
		{0, -huge, -1000, 1.2760588e+38},
		{-1000, huge, 1000, -1.2760588e+38},
		{5, tiny, 5, tiny},
		{5, -tiny, 5, -tiny},
		{5, 2 * tiny, 5, 2 * tiny},
		{5, 3 * tiny, 5, 2 * tiny},
		{5, 5 * tiny, 5, 4 * tiny},
		{0, tiny, tiny, tiny},
		// The signs of zeros.
		{minus, 0, 0, 0},
		{minus, minus, minus, minus},
		{0, minus, 0, minus},
		{3, -3, 0, -2.25},
		{-3, 3, 0, 2.25},
	} {
		other := float32(0.5)
		wantStep(t, worldAt(9, api.Entity{ID: 1, X: c.place, Y: other, VX: c.way, VY: other, Health: 1}), nil,
			api.Entity{ID: 1, X: c.wantPlace, Y: 1, VX: c.wantWay, VY: 0.375, Health: 1})
		wantStep(t, worldAt(9, api.Entity{ID: 1, X: other, Y: c.place, VX: other, VY: c.way, Health: 1}), nil,
			api.Entity{ID: 1, X: 1, Y: c.wantPlace, VX: 0.375, VY: c.wantWay, Health: 1})
	}
}

func TestAllMove(t *testing.T) {
	var before, after []api.Entity
	for id := range 32 {
		v := float32(id)
		before = append(before, api.Entity{ID: id, Team: id % 2, X: v, Y: -v, VX: v, VY: 4, Health: id + 1})
		after = append(after, api.Entity{ID: id, Team: id % 2, X: 2 * v, Y: 4 - v, VX: v * 0.75, VY: 3, Health: id + 1})
	}
	wantStep(t, worldAt(100, before...), nil, after...)
}

// Who comes moves at once, and who leaves does not.
func TestWhoComesMoves(t *testing.T) {
	w := worldAt(0, api.Entity{ID: 2, VX: 4, Health: 5})
	wantStep(t, w, []api.Command{spawn(1, 0, 1000, 1000), push(1, 1, -1)},
		api.Entity{ID: 1, X: 1000, Y: 999, VX: -0.375, VY: -0.75, Health: 100},
		api.Entity{ID: 2, X: 4, VX: 3, Health: 5})
	wantStep(t, w, []api.Command{hit(2, 5)})
}

func TestTicks(t *testing.T) {
	for tick := range 500 {
		wantStep(t, worldAt(tick), nil)
		wantStep(t, worldAt(tick, still(4, 1, 2, 3)), nil, still(4, 1, 2, 3))
	}
	wantNoStep(t, worldAt(500), nil, 2)
	wantNoStep(t, worldAt(500, still(4, 1, 2, 3)), []api.Command{leave(4)}, 2)
}

func TestHowManyCommands(t *testing.T) {
	l := make([]api.Command, 70)
	for i := range l {
		l[i] = push(4, 1, 0)
	}
	w := worldAt(0, still(4, 0, 0, 0))
	wantStep(t, w, l[:0], still(4, 0, 0, 0))
	wantStep(t, w, l[:63], api.Entity{ID: 4, X: 63, VX: 47.25, Health: 100})
	wantStep(t, w, l[:64], api.Entity{ID: 4, X: 64, VX: 48, Health: 100})
	wantNoStep(t, w, l[:65], 1)
	wantNoStep(t, w, l, 1)
	wantNoStep(t, w, make([]api.Command, 65), 1)
	wantNoStep(t, w, make([]api.Command, 1<<16), 1)
}

// turned tells a world of one sound entity between two others, that is turned
// in one thing.
func turned(turn func(*api.Entity)) api.World {
	w := worldAt(0, still(3, 0, 0, 0), still(5, 0, 0, 0), still(7, 0, 0, 0))
	turn(&w.Entities[1])
	return w
}

func noWorlds() []api.World {
	a, b := still(1, 0, 0, 0), still(2, 1, 0, 0)
	l := []api.World{worldAt(-1), worldAt(501), worldAt(501, a), worldAt(-1, a), worldAt(0, a, a), worldAt(0, b, a), worldAt(0, a, b, b), worldAt(0, a, b, a), worldAt(0, api.Entity{}), worldAt(0, make([]api.Entity, 40)...)}
	for _, n := range wildInts {
		if n < 0 || n > 500 {
			l = append(l, worldAt(n), worldAt(n, a))
		}
		l = append(l, turned(func(e *api.Entity) { e.ID = n }), turned(func(e *api.Entity) { e.Team = n }), turned(func(e *api.Entity) { e.Health = n }))
		l = append(l, worldAt(0, still(n, 0, 0, 0)))
	}
	for _, n := range []int{-1, 32, 33} {
		l = append(l, worldAt(0, still(n, 0, 0, 0)), turned(func(e *api.Entity) { e.ID = n }))
	}
	for _, n := range []int{-1, 2, 3} {
		l = append(l, turned(func(e *api.Entity) { e.Team = n }))
	}
	for _, n := range []int{0, -1, -100, 101, 102} {
		l = append(l, turned(func(e *api.Entity) { e.Health = n }))
	}
	for _, x := range []float32{above(1000), below(-1000), 1001, huge, -huge, inf, -inf, nan} {
		l = append(l, turned(func(e *api.Entity) { e.X = x }), turned(func(e *api.Entity) { e.Y = x }))
	}
	for _, v := range []float32{inf, -inf, nan} {
		l = append(l, turned(func(e *api.Entity) { e.VX = v }), turned(func(e *api.Entity) { e.VY = v }))
	}
	return l
}

func TestNoWorld(t *testing.T) {
	for _, w := range noWorlds() {
		wantNoStep(t, w, nil, 2)
		wantNoStep(t, w, []api.Command{leave(1), leave(5), spawn(6, 0, 1, 1)}, 2)
		wantNotSeen(t, w, 3, 5, 2)
	}
}

// The error that is named first is the answer.
func TestFirstError(t *testing.T) {
	for _, w := range noWorlds() {
		wantNoStep(t, w, make([]api.Command, 65), 2)
		wantNotSeen(t, w, 3, nan, 2)
		wantNotSeen(t, w, 3, -1, 2)
		wantNotSeen(t, w, 4, 5, 2)
		wantNotSeen(t, w, -1, nan, 2)
	}
	wantNoStep(t, worldAt(500), make([]api.Command, 65), 2)
	w := worldAt(500, still(3, 0, 0, 0))
	wantNotSeen(t, w, 4, nan, 5)
	wantNotSeen(t, w, 4, -1, 5)
}

// What is just within the bounds is a world.
func TestWorldsAtTheBounds(t *testing.T) {
	for _, e := range []api.Entity{
		still(0, 0, 1000, 1000), still(31, 1, -1000, -1000),
		{ID: 5, Health: 1}, {ID: 5, Health: 100},
		{ID: 5, VX: huge, VY: -huge, Health: 1}, {ID: 5, VX: -huge, VY: huge, Health: 1},
		{ID: 5, X: minus, Y: minus, VX: tiny, VY: -tiny, Health: 1},
	} {
		for _, tick := range []int{0, 1, 499} {
			got, err := callStep(t, worldAt(tick, e), nil)
			if err != 0 || len(got.Entities) != 1 || got.Tick != tick+1 {
				t.Errorf("Step(%+v) = %+v, %d, want it OK", worldAt(tick, e), got, err)
			}
		}
		for _, tick := range []int{0, 1, 499, 500} {
			wantSeen(t, worldAt(tick, e), e.ID, 0, e.ID)
		}
	}
}

func TestExampleOfSeen(t *testing.T) {
	w := worldAt(12, still(2, 0, 0, 0), still(5, 1, 3, 4), still(6, 1, 3, 4.5), still(9, 0, 1000, -1000))
	wantSeen(t, w, 2, 5, 2, 5, 9)
	wantSeen(t, w, 2, below(5), 2, 9)
	wantSeen(t, w, 2, 6, 2, 5, 6, 9)
	wantSeen(t, w, 5, 5, 2, 5, 6)
	wantSeen(t, w, 9, 5, 2, 9)
	wantSeen(t, w, 9, 2000, 2, 5, 6, 9)
}

func TestSeenFarEnds(t *testing.T) {
	w := worldAt(0, still(1, 0, 1, 1), still(2, 1, 1, 1), still(3, 1, 1, 1.5), still(4, 1, -1000, -1000), still(5, 0, 1000, 1000))
	wantSeen(t, w, 1, 0, 1, 2, 5)
	wantSeen(t, w, 1, minus, 1, 2, 5)
	wantSeen(t, w, 1, tiny, 1, 2, 5)
	wantSeen(t, w, 1, 0.5, 1, 2, 3, 5)
	wantSeen(t, w, 1, huge, 1, 2, 3, 4, 5)
	wantSeen(t, w, 1, inf, 1, 2, 3, 4, 5)
	wantSeen(t, w, 1, 1e30, 1, 2, 3, 4, 5)
	wantSeen(t, w, 5, 2828, 1, 2, 3, 5)
	wantSeen(t, w, 5, 2829, 1, 2, 3, 4, 5)
	for _, far := range []float32{nan, -nan, -tiny, -0.5, -5, -huge, -inf} {
		wantNotSeen(t, w, 1, far, 4)
	}
}

func TestSeenByNobody(t *testing.T) {
	w := worldAt(0, still(0, 0, 1, 1), still(5, 1, 1, 1), still(31, 1, 1, 1.5))
	for _, id := range append([]int{-1, 1, 4, 6, 30, 32, 33}, wildInts...) {
		wantNotSeen(t, w, id, 5, 5)
		wantNotSeen(t, w, id, 0, 5)
		wantNotSeen(t, worldAt(0), id, 5, 5)
	}
	wantNotSeen(t, worldAt(0), 0, 5, 5)
}

// Products, sums and differences are rounded one by one: in each row another
// way of reckoning (rounding less often, or comparing the roots) says the
// opposite.
func TestSeenIsRoundedStepByStep(t *testing.T) {
	for _, c := range []struct {
		ax, ay, bx, by, far float32
		seen                bool
	}{
		{-871.681, -484.117, -745.79, -656.67, 213.59561, true},   // dx * dx not rounded
		{-768.646, -84.24, 255.859, 702.097, 1291.4861, true},     // one of the products not rounded
		{75.876, 236.732, -923.203, -631.29, 1323.4882, false},    // dx * dx not rounded
		{-383.744, -971.379, 777.997, 324.203, 1740.1652, false},  // dx * dx not rounded
		{347.225, -238.129, 909.076, -958.306, 913.4174, true},    // dy * dy not rounded
		{549.33, -100.311, -298.852, 965.638, 1362.2261, false},   // dy * dy not rounded
		{-506.937, 463.487, -819.777, 966.026, 591.958, false},    // dy * dy not rounded
		{-844.282, -978.906, -371.537, -38.58, 1052.4736, true},   // far * far not rounded
		{-436.664, -612.893, -12.497, -525.157, 433.14575, true},  // far * far not rounded
		{-559.894, -565.534, 79.258, 476.947, 1222.8171, true},    // nothing rounded
		{-199.002, -359.155, -162.011, -620.398, 263.8489, false}, // nothing rounded
		{314.828, -624.843, -911.711, 242.145, 1502.0208, false},  // nothing rounded
		{-440.605, -380.957, -149.39, -177.457, 355.27234, false}, // differences not rounded
		{-692.397, -647.319, 453.448, 852.44, 1887.3892, false},   // differences not rounded
		{-279.922, 594.159, 62.957, -140.811, 811.0159, false},    // roots compared
		{-431.295, -673.462, -491.645, 316.51, 991.80975, false},  // roots compared
		{0, 0, 1e-30, 1e-30, 0, true},                             // products so small that they are 0
		{0, 0, 1e-30, 1e-30, 1e-38, true},                         // likewise
		{0, 0, 1e-20, 0, 0, false},                                // a product that is just not 0
	} {
		a, b := still(1, 0, c.ax, c.ay), still(2, 1, c.bx, c.by)
		ids := []int{1}
		back := []int{2}
		if c.seen {
			ids, back = []int{1, 2}, []int{1, 2}
		}
		wantSeen(t, worldAt(0, a, b), 1, c.far, ids...)
		wantSeen(t, worldAt(0, a, b), 2, c.far, back...)
	}
}

func TestSeenTellsEntitiesAsTheyAre(t *testing.T) {
	w := worldAt(500,
		api.Entity{ID: 0, X: minus, Y: 1, VX: huge, VY: -tiny, Health: 1},
		api.Entity{ID: 30, Team: 1, X: minus, Y: 2, VX: minus, VY: -huge, Health: 99},
		api.Entity{ID: 31, Team: 1, X: -1000, Y: 1000, VX: 7, VY: 8, Health: 100})
	wantSeen(t, w, 0, 1, 0, 30)
	wantSeen(t, w, 0, 3000, 0, 30, 31)
	wantSeen(t, w, 31, 1, 30, 31)
}
