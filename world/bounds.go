package world

import (
	"math"

	"encore/api"
)

// fits says no of a NaN, which no comparison holds for.
func fits(number, bound float32) bool {
	return number >= -bound && number <= bound
}

func isFinite(number float32) bool {
	return fits(number, math.MaxFloat32)
}

func isID(id int) bool {
	return id >= 0 && id <= api.MaxID
}

func isTeam(team int) bool {
	return team == 0 || team == 1
}

func isPlace(x, y float32) bool {
	return fits(x, api.Edge) && fits(y, api.Edge)
}

func isEntity(e api.Entity) bool {
	return isID(e.ID) && isTeam(e.Team) && isPlace(e.X, e.Y) &&
		isFinite(e.VX) && isFinite(e.VY) &&
		e.Health >= 1 && e.Health <= api.Health
}

func isWorld(w api.World) bool {
	if w.Tick < 0 || w.Tick > api.MaxTicks {
		return false
	}
	for i, e := range w.Entities {
		if !isEntity(e) || i > 0 && e.ID <= w.Entities[i-1].ID {
			return false
		}
	}
	return true
}
