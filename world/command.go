package world

import (
	"slices"

	"encore/api"
)

// command is a command with what its kind uses, and nothing else: so no kind
// can look at what is not its own.
type command interface {
	// inBounds tells whether it is as P4 says, as far as that can be told
	// without the world.
	inBounds() bool
}

type spawn struct {
	id, team int
	x, y     float32
}

type push struct {
	id   int
	x, y float32
}

type hit struct {
	id, n int
}

type leave struct {
	id int
}

// unknown is a command of any other kind.
type unknown struct{}

func (c spawn) inBounds() bool {
	return isID(c.id) && isTeam(c.team) && isPlace(c.x, c.y)
}

func (c push) inBounds() bool {
	return fits(c.x, api.MaxPush) && fits(c.y, api.MaxPush)
}

// No more than the whole Health of one that comes can be taken at once.
func (c hit) inBounds() bool {
	return c.n >= 1 && c.n <= api.Health
}

func (c leave) inBounds() bool { return true }

func (c unknown) inBounds() bool { return false }

func commandOf(c api.Command) command {
	switch c.Kind {
	case api.Spawn:
		return spawn{c.ID, c.Team, c.X, c.Y}
	case api.Push:
		return push{c.ID, c.X, c.Y}
	case api.Hit:
		return hit{c.ID, c.N}
	case api.Leave:
		return leave{c.ID}
	}
	return unknown{}
}

// do tells the entities after a command; the list that comes in is used up.
// One whose Health is gone is still there, until all commands are done.
func do(c command, entities []api.Entity) []api.Entity {
	if !c.inBounds() {
		return entities
	}
	switch c := c.(type) {
	case spawn:
		if at, there := find(entities, c.id); !there {
			entities = slices.Insert(entities, at, c.entity())
		}
	case push:
		if at, there := find(entities, c.id); there {
			entities[at].VX += c.x
			entities[at].VY += c.y
		}
	case hit:
		if at, there := find(entities, c.id); there {
			entities[at].Health -= c.n
		}
	case leave:
		if at, there := find(entities, c.id); there {
			entities = slices.Delete(entities, at, at+1)
		}
	}
	return entities
}

func (c spawn) entity() api.Entity {
	return api.Entity{ID: c.id, Team: c.team, X: c.x, Y: c.y, Health: api.Health}
}
