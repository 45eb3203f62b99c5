package demo

import (
	"encore/api"
	"encore/lru"
	"encore/world"
)

// Player shows a match.
type Player struct {
	match match
	at    int
	shown *lru.Cache[int, api.World]
}

// Open makes a player of a file (P8).
func Open(file string) (*Player, api.Errno) {
	m, isFile := matchOf(file)
	if !isFile {
		return nil, api.ErrFile
	}
	// No error: MaxCache is a size that New takes.
	shown, _ := lru.New[int, api.World](api.MaxCache)
	return &Player{match: m, shown: shown}, api.OK
}

// Ticks tells how many ticks there are (P9).
func (p *Player) Ticks() int {
	return len(p.match.commands)
}

// At tells which tick is shown (P9).
func (p *Player) At() int {
	return p.at
}

// Seek shows the world at a tick (P9).
func (p *Player) Seek(tick int) (api.World, api.Errno) {
	if tick < 0 || tick > p.Ticks() {
		return api.World{}, api.ErrRange
	}
	w := p.worldAt(tick)
	p.shown.Put(tick, w)
	p.at = tick
	// The cache goes on with this one, so the caller gets another.
	return copyOf(w), api.OK
}

// Move goes some ticks on, or back (P9).
func (p *Player) Move(by int) (api.World, api.Errno) {
	// Asked of the way that is left, as the sum might be no int.
	if by < -p.at || by > p.Ticks()-p.at {
		return api.World{}, api.ErrRange
	}
	return p.Seek(p.at + by)
}

func (p *Player) worldAt(tick int) api.World {
	w := p.lastAtHand(tick)
	for w.Tick < tick {
		// No error: matchOf lets in what Step takes, and nothing else.
		w, _ = world.Step(w, p.match.commands[w.Tick])
	}
	return w
}

// lastAtHand tells the last world up to a tick that need not be played: one
// that was shown, or the one that stands whole in the file. It does not look
// behind that one, so that a text which nobody recorded, too, has one world at
// a tick, whatever was shown ahead of it.
func (p *Player) lastAtHand(tick int) api.World {
	whole := p.match.whole[tick/p.match.every]
	for t := tick; t > whole.Tick; t-- {
		if w, there := p.shown.Get(t); there {
			return w
		}
	}
	return whole
}
