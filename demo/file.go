package demo

import (
	"math"
	"strconv"
	"strings"

	"encore/api"
)

// A file has a line that says what it is, and then a line for each tick. What
// a line has stands ahead of its end: so of a text that was cut off anywhere,
// those ticks are whole whose lines have their end.
//
// The words of a tick's line: how many commands there are, and the words of
// each; then, at every `every`-th tick, how many entities there are after it,
// and the words of each.

const fileName = "encore"

func firstLine(every int) string {
	return line([]string{fileName, intWord(every)})
}

func tickLine(l []api.Command, after api.World, every int) string {
	words := []string{intWord(len(l))}
	for _, c := range l {
		words = append(words, commandWords(c)...)
	}
	if after.Tick%every == 0 {
		words = append(words, intWord(len(after.Entities)))
		for _, e := range after.Entities {
			words = append(words, entityWords(e)...)
		}
	}
	return line(words)
}

func line(words []string) string {
	return strings.Join(words, " ") + "\n"
}

// commandWords tells a command as far as its kind uses it. Whether it does
// anything is not asked here: that is the world's business.
func commandWords(c api.Command) []string {
	kind, id := intWord(c.Kind), intWord(c.ID)
	switch c.Kind {
	case api.Spawn:
		return []string{kind, id, intWord(c.Team), floatWord(c.X), floatWord(c.Y)}
	case api.Push:
		return []string{kind, id, floatWord(c.X), floatWord(c.Y)}
	case api.Hit:
		return []string{kind, id, intWord(c.N)}
	case api.Leave:
		return []string{kind, id}
	}
	return []string{kind}
}

func entityWords(e api.Entity) []string {
	return []string{intWord(e.ID), intWord(e.Team), floatWord(e.X), floatWord(e.Y),
		floatWord(e.VX), floatWord(e.VY), intWord(e.Health)}
}

func intWord(n int) string {
	return strconv.Itoa(n)
}

// floatWord tells the bits of a number: by them it comes back as it was, the
// sign of a zero too.
func floatWord(x float32) string {
	return bitsWord(uint64(math.Float32bits(x)))
}

func bitsWord(bits uint64) string {
	return strconv.FormatUint(bits, 16)
}
