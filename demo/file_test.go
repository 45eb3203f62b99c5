package demo_test

import (
	"fmt"
	"math"
	"math/rand"
	"slices"
	"strings"
	"testing"

	"encore/api"
	"encore/world"
)

// Of P8: what stands in a file.

// The form of files: those that were made earlier are to be opened later too.
func TestFormOfTheFile(t *testing.T) {
	m := newMatch(t, 2)
	for _, c := range []struct {
		l    []api.Command
		want string
	}{
		{nil, "0\n"},
		{[]api.Command{spawn(3, 0, 10, 999), push(3, 4, 2)}, "2 1 3 0 41200000 4479c000 2 3 40800000 40000000 1 3 0 41600000 447a0000 40400000 bf400000 100\n"},
		{[]api.Command{{Kind: -5, ID: 7}, hit(3, 99), leave(31)}, "3 -5 3 3 99 4 31\n"},
		{[]api.Command{hit(3, 1)}, "1 3 3 1 0\n"},
		{[]api.Command{push(9, minus, nan)}, "1 2 9 80000000 7fc00000\n"},
	} {
		if got := m.next(t, c.l); got != c.want {
			t.Errorf("Record(%+v) adds %q to the file, want %q", c.l, got, c.want)
		}
	}
	if want := "encore 2\n"; !strings.HasPrefix(m.file, want) {
		t.Errorf("the file begins with %q, want %q", m.file[:len(want)], want)
	}
}

func lastOfLines(s string) bool { return strings.IndexByte(s, '\n') == len(s)-1 }

// A tick has one line, so that a text that was cut off can be told from a
// whole one.
func TestOneLineForEachTick(t *testing.T) {
	for seed := range int64(20) {
		d := drawn{rand.New(rand.NewSource(seed))}
		m := newMatch(t, 1+d.Intn(64))
		if !lastOfLines(m.file) {
			t.Errorf("a new file is %q", m.file)
		}
		for range 100 {
			if added := m.next(t, d.commands()); added != "" && !lastOfLines(added) {
				t.Errorf("tick %d adds %q", m.now.Tick, added)
			}
		}
	}
}

// What leads to another world adds another text, and none is the beginning of
// another: else a cut text could be taken for a whole one.
func TestFilesTellMatchesApart(t *testing.T) {
	lists := [][]api.Command{
		nil,
		{push(3, 1, 1)}, {push(3, 1, 2)}, {push(3, 2, 1)}, {push(3, 1, 1), push(3, 1, 1)},
		{push(3, 1, 16)}, {push(3, 16, 1)}, {push(3, 1, 1.0000001)}, {push(3, tiny, 1)}, {push(3, -tiny, 1)},
		{push(4, 1, 1)}, {push(3, 1, 1), push(4, 1, 1)},
		{hit(3, 1)}, {hit(3, 10)}, {hit(3, 2)}, {hit(4, 1)}, {hit(3, 1), hit(4, 1)},
		{leave(3)}, {leave(4)}, {leave(3), leave(4)},
		{spawn(1, 0, 1, 1)}, {spawn(1, 1, 1, 1)}, {spawn(1, 0, 1, 2)}, {spawn(1, 0, 2, 1)}, {spawn(2, 0, 1, 1)}, {spawn(10, 0, 1, 1)}, {spawn(11, 0, 1, 1)},
		{leave(3), spawn(3, 1, 5, 5)}, {spawn(3, 1, 5, 5), leave(3)}, {leave(3), spawn(3, 1, 5, 5), push(3, 1, 1)}, {leave(3), push(3, 1, 1), spawn(3, 1, 6, 5)},
	}
	for _, every := range []int{1, 2, 3} {
		added := make([]string, len(lists))
		worlds := make([]api.World, len(lists))
		for i, l := range lists {
			m := newMatch(t, every)
			m.next(t, []api.Command{spawn(3, 0, 7, 7), spawn(4, 1, 8, 8)})
			added[i], worlds[i] = m.next(t, l), m.now
		}
		for i := range lists {
			for j := range lists {
				if !sameWorld(worlds[i], worlds[j]) && strings.HasPrefix(added[i], added[j]) {
					t.Errorf("every %d: %+v adds %q, %+v adds %q", every, lists[i], added[i], lists[j], added[j])
				}
			}
		}
	}
}

// What a kind does not use is not looked at.
func TestWhatAKindDoesNotUseIsNotInTheFile(t *testing.T) {
	junk := func(c api.Command) api.Command {
		switch c.Kind {
		case api.Spawn:
			c.N = 1 << 40
		case api.Push:
			c.Team, c.N = -7, 55
		case api.Hit:
			c.Team, c.X, c.Y = 9, nan, inf
		case api.Leave:
			c.Team, c.X, c.Y, c.N = 1, huge, minus, 3
		default:
			c.ID, c.Team, c.X, c.Y, c.N = 5, 6, tiny, -tiny, math.MinInt
		}
		return c
	}
	a, b := newMatch(t, 2), newMatch(t, 2)
	for _, c := range []api.Command{spawn(4, 1, 6, 7), push(4, 1, -1), {Kind: 5}, {}, hit(4, 30), leave(4)} {
		a.next(t, []api.Command{c})
		b.next(t, []api.Command{junk(c)})
	}
	if a.file != b.file {
		t.Errorf("two files:\n%q\n%q", a.file, b.file)
	}
}

// scan is a second reading of a file's lines, with other means.
type scan struct {
	t *testing.T
	*strings.Reader
}

func (s scan) int() (n int) {
	s.t.Helper()
	if _, err := fmt.Fscan(s, &n); err != nil {
		s.t.Fatalf("a whole number is not there: %v", err)
	}
	return n
}

func (s scan) point() float32 {
	s.t.Helper()
	var bits uint32
	if _, err := fmt.Fscanf(s, " %x", &bits); err != nil {
		s.t.Fatalf("a number with a point is not there: %v", err)
	}
	return math.Float32frombits(bits)
}

func (s scan) command() api.Command {
	c := api.Command{Kind: s.int()}
	if c.Kind >= 1 && c.Kind <= 4 {
		c.ID = s.int()
	}
	switch c.Kind {
	case 1:
		c.Team, c.X, c.Y = s.int(), s.point(), s.point()
	case 2:
		c.X, c.Y = s.point(), s.point()
	case 3:
		c.N = s.int()
	}
	return c
}

func (s scan) entity() api.Entity {
	return api.Entity{ID: s.int(), Team: s.int(), X: s.point(), Y: s.point(), VX: s.point(), VY: s.point(), Health: s.int()}
}

func several[T any](n int, one func() T) []T {
	var l []T
	for range n {
		l = append(l, one())
	}
	return l
}

// What stands in a file is enough to tell each world again, be it from the
// beginning or from a whole world.
func TestTheFileHoldsTheMatch(t *testing.T) {
	for seed := range int64(20) {
		d := drawn{rand.New(rand.NewSource(seed))}
		every := 1 + d.Intn(10)
		m := newMatch(t, every)
		worlds := []api.World{{}}
		for m.now.Tick < 200 {
			if m.next(t, d.commands()) != "" {
				worlds = append(worlds, m.now)
			}
		}
		lines := slices.Collect(strings.Lines(m.file))
		if lines[0] != fmt.Sprintf("encore %d\n", every) || len(lines) != len(worlds) {
			t.Fatalf("seed %d: %d lines, the first one %q", seed, len(lines), lines[0])
		}
		now := api.World{}
		for tick := 1; tick < len(lines); tick++ {
			s := scan{t, strings.NewReader(lines[tick])}
			now, _ = world.Step(now, several(s.int(), s.command))
			if !sameWorld(now, worlds[tick]) {
				t.Fatalf("seed %d, tick %d: played again %+v, was %+v", seed, tick, now, worlds[tick])
			}
			if tick%every == 0 {
				now = api.World{Tick: tick, Entities: several(s.int(), s.entity)}
				if !sameWorld(now, worlds[tick]) {
					t.Fatalf("seed %d, tick %d: the whole world %+v, was %+v", seed, tick, now, worlds[tick])
				}
			}
			var more string
			if fmt.Fscan(s, &more); more != "" {
				t.Fatalf("seed %d, tick %d: behind it there is %q", seed, tick, more)
			}
		}
	}
}
