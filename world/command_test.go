package world_test

import (
	"slices"
	"testing"

	"encore/api"
)

// P4: what each command does, and that it does nothing where it is not as said.

// crowd is a world that each command here can do something in.
func crowd() api.World {
	return worldAt(7, still(0, 0, 1, 2), still(5, 1, -3, 4), still(31, 0, 1000, -1000))
}

// wantNothing tries a command alone, and between two that do something.
func wantNothing(t *testing.T, c api.Command) {
	t.Helper()
	w := crowd()
	wantStep(t, w, []api.Command{c}, w.Entities...)
	after := slices.Clone(w.Entities)
	after[0].Health, after[1].Health = 99, 98
	wantStep(t, w, []api.Command{hit(0, 1), c, hit(5, 2)}, after...)
}

func TestSpawn(t *testing.T) {
	for id := 0; id <= 31; id++ {
		for team := 0; team <= 1; team++ {
			wantStep(t, worldAt(0), []api.Command{spawn(id, team, -7.25, 3.5)}, still(id, team, -7.25, 3.5))
		}
	}
}

func TestSpawnTakesItsPlaceAmongTheIDs(t *testing.T) {
	a, b, c := still(0, 0, 1, 2), still(5, 1, -3, 4), still(31, 0, 1000, -1000)
	wantStep(t, worldAt(7, b, c), []api.Command{spawn(0, 0, 1, 2)}, a, b, c)
	wantStep(t, worldAt(7, a, c), []api.Command{spawn(5, 1, -3, 4)}, a, b, c)
	wantStep(t, worldAt(7, a, b), []api.Command{spawn(31, 0, 1000, -1000)}, a, b, c)
	wantStep(t, worldAt(7), []api.Command{spawn(31, 0, 1000, -1000), spawn(0, 0, 1, 2), spawn(5, 1, -3, 4)}, a, b, c)
}

func TestSpawnAllFallingAndRising(t *testing.T) {
	var rising, falling []api.Command
	var want []api.Entity
	for id := range 32 {
		rising = append(rising, spawn(id, id%2, float32(id), 0))
		falling = append(falling, spawn(31-id, (31-id)%2, float32(31-id), 0))
		want = append(want, still(id, id%2, float32(id), 0))
	}
	wantStep(t, worldAt(0), rising, want...)
	wantStep(t, worldAt(0), falling, want...)
	wantStep(t, worldAt(0), append(slices.Clone(rising), falling...), want...)
	wantStep(t, worldAt(0, want...), falling, want...)
}

func TestSpawnPlaces(t *testing.T) {
	for _, x := range []float32{1000, -1000, below(1000), above(-1000), 0, minus, tiny, -tiny} {
		for _, y := range []float32{1000, -1000, 0.1} {
			// It moves by its way of 0 at once: by that a -0 is 0.
			wantStep(t, worldAt(0), []api.Command{spawn(3, 0, x, y)}, still(3, 0, x+0, y))
			wantStep(t, worldAt(0), []api.Command{spawn(3, 0, y, x)}, still(3, 0, y, x+0))
		}
	}
}

func TestSpawnRefused(t *testing.T) {
	for _, id := range append([]int{-1, -2, 32, 33, 63, 64, 127, 128, 255}, wildInts...) {
		wantNothing(t, spawn(id, 0, 1, 1))
	}
	for _, team := range append([]int{-1, -2, 2, 3}, wildInts...) {
		wantNothing(t, spawn(6, team, 1, 1))
	}
	for _, x := range []float32{above(1000), below(-1000), 1000.5, -1001, huge, -huge, inf, -inf, nan, -nan} {
		wantNothing(t, spawn(6, 0, x, 1))
		wantNothing(t, spawn(6, 0, 1, x))
		wantNothing(t, spawn(6, 1, x, x))
	}
}

func TestSpawnOfOneThatIsThere(t *testing.T) {
	for _, id := range []int{0, 5, 31} {
		wantNothing(t, spawn(id, 0, 8, 8))
		wantNothing(t, spawn(id, 1, 8, 8))
	}
	wantStep(t, worldAt(0), []api.Command{spawn(6, 0, 1, 1), spawn(6, 1, 2, 2)}, still(6, 0, 1, 1))
	wantStep(t, worldAt(0), []api.Command{spawn(6, 2, 1, 1), spawn(6, 1, 2, 2)}, still(6, 1, 2, 2))
}

func TestPush(t *testing.T) {
	w := worldAt(3, api.Entity{ID: 4, Team: 1, X: 10, Y: 20, VX: 1, VY: -2, Health: 9})
	for _, c := range []struct{ x, y, wantX, wantY, wantVX, wantVY float32 }{
		{3, 6, 14, 24, 3, 3},
		{0, 0, 11, 18, 0.75, -1.5},
		{100, -100, 111, -82, 75.75, -76.5},
		{-100, 100, -89, 118, -74.25, 73.5},
		{-1, 2, 10, 20, 0, 0},
	} {
		wantStep(t, w, []api.Command{push(4, c.x, c.y)}, api.Entity{ID: 4, Team: 1, X: c.wantX, Y: c.wantY, VX: c.wantVX, VY: c.wantVY, Health: 9})
	}
}

func TestPushesAddUp(t *testing.T) {
	w := worldAt(0, still(2, 0, 0, 0))
	wantStep(t, w, []api.Command{push(2, 100, 1), push(2, 100, 2), push(2, -40, 3)}, api.Entity{ID: 2, X: 160, Y: 6, VX: 120, VY: 4.5, Health: 100})
	// Each sum is rounded by itself: 2^24 and 1 is 2^24, three times.
	fast := api.Entity{ID: 2, VX: 1 << 24, VY: -1 << 24, Health: 1}
	bounced := api.Entity{ID: 2, X: 1000, Y: -1000, VX: -6291456, VY: 6291456, Health: 1}
	wantStep(t, worldAt(0, fast), []api.Command{push(2, 1, -1), push(2, 1, -1), push(2, 1, -1)}, bounced)
}

func TestPushOfTheFastest(t *testing.T) {
	var all []api.Command
	for range 64 {
		all = append(all, push(1, 100, -100))
	}
	w := worldAt(0, api.Entity{ID: 1, VX: huge, VY: -huge, Health: 1})
	want := float32(float64(huge) * 0.375)
	wantStep(t, w, all, api.Entity{ID: 1, X: 1000, Y: -1000, VX: -want, VY: want, Health: 1})
}

func TestPushRefused(t *testing.T) {
	for _, x := range []float32{above(100), below(-100), 100.5, -101, 1000, huge, -huge, inf, -inf, nan} {
		wantNothing(t, push(5, x, 1))
		wantNothing(t, push(5, 1, x))
		wantNothing(t, push(5, x, x))
	}
	for _, id := range append([]int{-1, 1, 4, 6, 30, 32, 33}, wildInts...) {
		wantNothing(t, push(id, 1, 1))
	}
}

func TestHit(t *testing.T) {
	for health := 1; health <= 100; health++ {
		e := api.Entity{ID: 8, Team: 1, X: 1, Y: 2, Health: health}
		for n := 1; n <= 100; n++ {
			var want []api.Entity
			if health > n {
				want = []api.Entity{{ID: 8, Team: 1, X: 1, Y: 2, Health: health - n}}
			}
			wantStep(t, worldAt(0, e), []api.Command{hit(8, n)}, want...)
		}
	}
}

func TestHitsAddUp(t *testing.T) {
	w := worldAt(0, still(8, 0, 0, 0), still(9, 1, 0, 0))
	nearly := []api.Command{hit(8, 33), hit(8, 33), hit(8, 33)}
	left := api.Entity{ID: 8, Health: 1}
	wantStep(t, w, nearly, left, still(9, 1, 0, 0))
	wantStep(t, w, append(nearly, hit(8, 1)), still(9, 1, 0, 0))
	wantStep(t, w, append(nearly, hit(8, 100)), still(9, 1, 0, 0))
}

func TestHitRefused(t *testing.T) {
	for _, n := range append([]int{0, -1, -100, 101, 102, 200, 356, 357}, wildInts...) {
		wantNothing(t, hit(5, n))
	}
	for _, id := range append([]int{-1, 1, 4, 6, 30, 32, 33}, wildInts...) {
		wantNothing(t, hit(id, 5))
	}
}

func TestLeave(t *testing.T) {
	w := crowd()
	a, b, c := w.Entities[0], w.Entities[1], w.Entities[2]
	wantStep(t, w, []api.Command{leave(0)}, b, c)
	wantStep(t, w, []api.Command{leave(5)}, a, c)
	wantStep(t, w, []api.Command{leave(31)}, a, b)
	wantStep(t, w, []api.Command{leave(5), leave(5), leave(0)}, c)
	wantStep(t, w, []api.Command{leave(0), leave(31), leave(5)})
}

func TestLeaveRefused(t *testing.T) {
	for _, id := range append([]int{-1, 1, 4, 6, 30, 32, 33}, wildInts...) {
		wantNothing(t, leave(id))
	}
}

func TestOtherKinds(t *testing.T) {
	for _, kind := range append([]int{0, -1, -2, -3, -4, 5, 6, 7, 8}, wildInts...) {
		wantNothing(t, api.Command{Kind: kind, ID: 5, Team: 1, X: 1, Y: 1, N: 100})
		wantNothing(t, api.Command{Kind: kind, ID: 6, Team: 1, X: 1, Y: 1, N: 100})
	}
}

func TestWhatAKindDoesNotUseIsNotLookedAt(t *testing.T) {
	w := worldAt(0, still(5, 0, 0, 0))
	for _, n := range append([]int{-1, 0, 2, 101}, wildInts...) {
		for _, x := range []float32{nan, inf, -inf, 1001, -huge} {
			s, p, h, l := spawn(6, 1, 9, 9), push(5, 4, 8), hit(5, 10), leave(5)
			s.N, p.N, p.Team, h.Team, l.N, l.Team = n, n, n, n, n, n
			h.X, h.Y, l.X, l.Y = x, x, x, x
			wantStep(t, w, []api.Command{s}, still(5, 0, 0, 0), still(6, 1, 9, 9))
			wantStep(t, w, []api.Command{p}, api.Entity{ID: 5, X: 4, Y: 8, VX: 3, VY: 6, Health: 100})
			wantStep(t, w, []api.Command{h}, api.Entity{ID: 5, Health: 90})
			wantStep(t, w, []api.Command{l})
		}
	}
}

// Who has no Health left is there until all commands are done.
func TestTheFallenAreThereUntilTheEnd(t *testing.T) {
	w := worldAt(0, still(5, 0, 0, 0))
	wantStep(t, w, []api.Command{hit(5, 100), spawn(5, 1, 9, 9)})
	wantStep(t, w, []api.Command{hit(5, 100), hit(5, 100), push(5, 1, 1), spawn(5, 1, 9, 9)})
	wantStep(t, w, []api.Command{hit(5, 100), leave(5), spawn(5, 1, 9, 9)}, still(5, 1, 9, 9))
	wantStep(t, w, []api.Command{hit(5, 100), leave(5), spawn(5, 1, 9, 9), hit(5, 30)}, api.Entity{ID: 5, Team: 1, X: 9, Y: 9, Health: 70})
	var all []api.Command
	for range 64 {
		all = append(all, hit(5, 100))
	}
	wantStep(t, w, all)
}

func TestCommandsAreDoneInTheirOrder(t *testing.T) {
	w := worldAt(0, still(5, 0, 0, 0))
	anew := still(5, 1, 9, 9)
	wantStep(t, w, []api.Command{leave(5), spawn(5, 1, 9, 9)}, anew)
	wantStep(t, w, []api.Command{spawn(5, 1, 9, 9), leave(5)})
	wantStep(t, w, []api.Command{push(5, 4, 4), leave(5), spawn(5, 1, 9, 9)}, anew)
	wantStep(t, w, []api.Command{leave(5), push(5, 4, 4), spawn(5, 1, 9, 9)}, anew)
	wantStep(t, w, []api.Command{leave(5), spawn(5, 1, 9, 9), push(5, 4, 4)}, api.Entity{ID: 5, Team: 1, X: 13, Y: 13, VX: 3, VY: 3, Health: 100})
	wantStep(t, w, []api.Command{leave(5), hit(5, 50), spawn(5, 1, 9, 9)}, anew)
}
