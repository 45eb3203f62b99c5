package demo_test

import (
	"math"
	"math/rand"
	"slices"
	"sync"
	"testing"

	"encore/api"
	"encore/demo"
)

// P9: Ticks, At, Seek and Move.

func TestExampleOfThePlayer(t *testing.T) {
	for every := 1; every <= 64; every++ {
		r := newRecording(t, every, nil, nil, nil)
		p := open(t, r.file, []api.World{{}, {Tick: 1}, {Tick: 2}, {Tick: 3}})
		p.seek(t, 3)
		p.move(t, -4)
		p.wantState(t)
		p.move(t, -1)
		if p.At() != 2 {
			t.Errorf("every %d: at %d, want 2", every, p.At())
		}
	}
}

func TestSeekOfAFewTicks(t *testing.T) {
	one := api.Entity{ID: 3, X: 14, Y: 1000, VX: 3, VY: -0.75, Health: 100}
	two := api.Entity{ID: 3, X: 17, Y: 999.25, VX: 2.25, VY: -0.5625, Health: 1}
	worlds := []api.World{{}, {Tick: 1}, {Tick: 2, Entities: []api.Entity{one}}, {Tick: 3, Entities: []api.Entity{two}}, {Tick: 4}}
	for _, every := range []int{1, 2, 3, 4, 5, 64} {
		r := newRecording(t, every, nil, []api.Command{spawn(3, 0, 10, 999), push(3, 4, 2)}, []api.Command{hit(3, 99)}, []api.Command{hit(3, 1)})
		p := open(t, r.file, worlds)
		for _, tick := range []int{3, 3, 0, 4, 2, 1, 3, 2, -1, 5, 4, 0, 0} {
			p.seek(t, tick)
		}
	}
}

func TestTickZero(t *testing.T) {
	full := []api.Command{spawn(0, 0, 1, 1), spawn(31, 1, 2, 2)}
	for every := 1; every <= 64; every++ {
		nothing := open(t, newRecording(t, every).file, []api.World{{}})
		r := newRecording(t, every, full, full)
		for _, p := range []*player{nothing, open(t, r.file, r.worlds)} {
			p.move(t, 0)
			p.seek(t, 0)
			p.move(t, p.Ticks())
			p.seek(t, 0)
			p.move(t, -1)
			p.move(t, p.Ticks()+1)
		}
	}
}

// Every tick of the longest match, on and back and across.
func TestTheLongestMatch(t *testing.T) {
	for _, every := range []int{1, 2, 3, 63, 64} {
		d := drawn{rand.New(rand.NewSource(int64(every)))}
		r := drawnRecording(t, d, every, 500)
		on, back, across := open(t, r.file, r.worlds), open(t, r.file, r.worlds), open(t, r.file, r.worlds)
		back.seek(t, 500)
		for i := range 500 {
			on.move(t, 1)
			back.move(t, -1)
			across.seek(t, i*211%501)
		}
		for _, p := range []*player{on, back, across} {
			p.seek(t, 501)
			p.seek(t, -1)
			p.seek(t, 500)
			p.move(t, 1)
			p.move(t, -501)
			p.move(t, -500)
		}
	}
}

func TestDrawnSeeksAndMoves(t *testing.T) {
	for seed := range int64(40) {
		d := drawn{rand.New(rand.NewSource(seed))}
		r := drawnRecording(t, d, 1+d.Intn(64), d.Intn(300))
		p := open(t, r.file, r.worlds)
		for range 400 {
			tick := d.Intn(len(r.worlds)+4) - 2
			switch d.Intn(5) {
			case 0:
				p.seek(t, tick)
			case 1:
				p.move(t, tick-p.at)
			case 2:
				p.move(t, d.Intn(9)-4)
			case 3:
				p.seek(t, wildInts[d.Intn(len(wildInts))])
			default:
				p.move(t, wildInts[d.Intn(len(wildInts))])
			}
		}
	}
}

// Wherever a player is, what is no tick, or no int, changes nothing.
func TestOutOfRange(t *testing.T) {
	d := drawn{rand.New(rand.NewSource(3))}
	r := drawnRecording(t, d, 3, 10)
	p := open(t, r.file, r.worlds)
	far := append([]int{math.MinInt + 1, math.MaxInt - 1, math.MaxInt - 9, math.MaxInt - 10, math.MaxInt - 11, 1<<32 + 5, -11, 11, 12, 500, 501}, wildInts...)
	far = slices.DeleteFunc(far, func(n int) bool { return n == 0 || n == -1 })
	for at := range 11 {
		p.seek(t, at)
		for _, n := range far {
			p.move(t, n)
			p.seek(t, n)
			p.move(t, 0)
		}
		p.seek(t, -1)
		p.move(t, -at-1)
		p.move(t, 10-at+1)
		if p.At() != at {
			t.Errorf("at %d, want %d", p.At(), at)
		}
	}
}

// Zeros keep their signs, and numbers at their ends their last bit.
func TestSeekToTheLastBit(t *testing.T) {
	edge := []api.Command{spawn(0, 0, minus, 0), spawn(1, 1, tiny, -tiny), spawn(30, 0, 1000, -1000), spawn(31, 1, math.Nextafter32(1000, 0), 0.1)}
	pushed := []api.Command{push(0, minus, tiny), push(1, 0.1, -0.1), push(30, 100, -100), push(31, math.Nextafter32(100, 0), 1e-30)}
	for every := 1; every <= 6; every++ {
		r := newRecording(t, every, edge, pushed, pushed, nil, append(times(50, push(0, 100, -100)), hit(31, 99)), nil)
		p := open(t, r.file, r.worlds)
		for _, tick := range []int{6, 5, 4, 3, 2, 1, 0, 1, 2, 3, 4, 5, 6} {
			p.seek(t, tick)
		}
	}
}

// P2: answers share no memory with one another, even of the same tick.
func TestShownWorldsAreNewMemory(t *testing.T) {
	d := drawn{rand.New(rand.NewSource(8))}
	for _, every := range []int{1, 4, 64} {
		r := drawnRecording(t, d, every, 100)
		p := open(t, r.file, r.worlds)
		var answers []api.World
		for range 300 {
			w, e := p.Seek(d.Intn(101))
			again, eAgain := p.Move(0)
			if e != 0 || eAgain != 0 {
				t.Fatalf("Seek: %d, Move: %d", e, eAgain)
			}
			answers = append(answers, w, again)
		}
		for _, w := range answers {
			if !sameWorld(w, r.worlds[w.Tick]) {
				t.Fatalf("an answer is %+v, was %+v", w, r.worlds[w.Tick])
			}
			spoil(w)
		}
	}
}

// P2: players do not touch one another, be it of one file, nor the recorder
// that goes on.
func TestPlayersTakingTurns(t *testing.T) {
	d := drawn{rand.New(rand.NewSource(12))}
	m := newMatch(t, 5)
	worlds := []api.World{{}}
	var players []*player
	for m.now.Tick < 120 {
		if m.next(t, d.commands()) == "" {
			continue
		}
		worlds = append(worlds, m.now)
		if m.now.Tick%10 == 0 {
			players = append(players, open(t, m.File(), worlds), open(t, m.File(), worlds))
		}
		for range min(3, len(players)) {
			p := players[d.Intn(len(players))]
			p.seek(t, d.Intn(len(p.worlds)+1))
			for _, other := range players {
				other.wantState(t)
			}
		}
	}
}

func TestPlayersSideBySide(t *testing.T) {
	d := drawn{rand.New(rand.NewSource(21))}
	r := drawnRecording(t, d, 7, 200)
	var all sync.WaitGroup
	for seed := range int64(8) {
		all.Go(func() {
			draw := rand.New(rand.NewSource(seed))
			p, e := demo.Open(r.file)
			if e != 0 {
				t.Errorf("Open: %d", e)
				return
			}
			for range 500 {
				tick := draw.Intn(201)
				if w, e := p.Seek(tick); e != 0 || p.At() != tick || !sameWorld(w, r.worlds[tick]) {
					t.Errorf("Seek(%d) = %+v, %d, want %+v, OK", tick, w, e, r.worlds[tick])
					return
				}
			}
		})
	}
	all.Wait()
}
