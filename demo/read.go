package demo

import (
	"math"
	"strconv"
	"strings"

	"encore/api"
	"encore/world"
)

// match is what a file tells.
type match struct {
	every    int
	commands [][]api.Command // those that lead to the tick 1 stand first
	whole    []api.World     // at the ticks 0, every, 2 * every, and so on
}

// matchOf tells the match of a file, as far as it goes, or false, if the text
// is none.
func matchOf(file string) (match, bool) {
	// A last line that has no end was cut off: it is not looked at.
	lines := file[:strings.LastIndexByte(file, '\n')+1]
	first, rest, _ := strings.Cut(lines, "\n")
	every, isFirst := everyOf(first)
	if !isFirst {
		return match{}, false
	}
	m := match{every: every, whole: []api.World{{}}}
	for line := range strings.Lines(rest) {
		if !m.add(strings.TrimSuffix(line, "\n")) {
			return match{}, false
		}
	}
	return m, true
}

func everyOf(first string) (int, bool) {
	r := reader{rest: first}
	isNamed := r.word() == fileName
	every := r.intWithin(1, api.MaxEvery)
	return every, isNamed && r.isDone()
}

// add lets a match go on by the line of a tick, or tells false, if it is none.
func (m *match) add(line string) bool {
	tick := len(m.commands) + 1
	if tick > api.MaxTicks {
		return false
	}
	r := reader{rest: line}
	m.commands = append(m.commands, r.commands())
	if tick%m.every == 0 {
		w := api.World{Tick: tick, Entities: r.entities()}
		if !isWorld(w) {
			return false
		}
		m.whole = append(m.whole, w)
	}
	return r.isDone()
}

// isWorld asks Seen, as package world alone knows what a world is: of what is
// none it answers ErrWorld, whoever is to look at it.
func isWorld(w api.World) bool {
	_, e := world.Seen(w, 0, 0)
	return e != api.ErrWorld
}

// reader reads the words of a line, the first one first. What is not there, or
// not just as it would have been written, breaks it, and is read as 0: so it
// is enough to ask at the end.
type reader struct {
	rest     string
	isOver   bool
	isBroken bool
}

// isDone tells whether the line had all that was read, and nothing else.
func (r *reader) isDone() bool {
	return r.isOver && !r.isBroken
}

func (r *reader) word() string {
	if r.isOver {
		r.isBroken = true
		return ""
	}
	word, rest, more := strings.Cut(r.rest, " ")
	r.rest, r.isOver = rest, !more
	return word
}

func (r *reader) intWithin(low, high int) int {
	word := r.word()
	n, err := strconv.Atoi(word)
	if err != nil || intWord(n) != word || n < low || n > high {
		r.isBroken = true
		return 0
	}
	return n
}

func (r *reader) anyInt() int {
	return r.intWithin(math.MinInt, math.MaxInt)
}

func (r *reader) anyFloat() float32 {
	word := r.word()
	bits, err := strconv.ParseUint(word, 16, 32)
	if err != nil || bitsWord(bits) != word {
		r.isBroken = true
		return 0
	}
	return math.Float32frombits(uint32(bits))
}

func (r *reader) commands() []api.Command {
	l := make([]api.Command, r.intWithin(0, api.MaxCommands))
	for i := range l {
		l[i] = r.command()
	}
	return l
}

func (r *reader) command() api.Command {
	c := api.Command{Kind: r.anyInt()}
	switch c.Kind {
	case api.Spawn:
		c.ID, c.Team, c.X, c.Y = r.anyInt(), r.anyInt(), r.anyFloat(), r.anyFloat()
	case api.Push:
		c.ID, c.X, c.Y = r.anyInt(), r.anyFloat(), r.anyFloat()
	case api.Hit:
		c.ID, c.N = r.anyInt(), r.anyInt()
	case api.Leave:
		c.ID = r.anyInt()
	}
	return c
}

func (r *reader) entities() []api.Entity {
	l := make([]api.Entity, r.intWithin(0, api.MaxID+1))
	for i := range l {
		l[i] = r.entity()
	}
	return l
}

func (r *reader) entity() api.Entity {
	return api.Entity{ID: r.anyInt(), Team: r.anyInt(), X: r.anyFloat(), Y: r.anyFloat(),
		VX: r.anyFloat(), VY: r.anyFloat(), Health: r.anyInt()}
}
