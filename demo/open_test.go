package demo_test

import (
	"fmt"
	"math/rand"
	"slices"
	"strings"
	"testing"
	"unsafe"

	"encore/api"
	"encore/demo"
)

// P8: Open.

func TestOpenOfNewFiles(t *testing.T) {
	for every := 1; every <= 64; every++ {
		file := newRecorder(t, every).File()
		open(t, file, []api.World{{}})
		for n := range len(file) {
			wantNoFile(t, file[:n])
		}
	}
}

// wholeTicks tells how many ticks were recorded when the file was as long as
// can be that still lies within n bytes, or -1.
func (r recording) wholeTicks(n int) int {
	last := -1
	for tick, stand := range r.stands {
		if stand <= n {
			last = tick
		}
	}
	return last
}

func (r recording) openCut(t *testing.T, n int) {
	t.Helper()
	ticks := r.wholeTicks(n)
	if ticks < 0 {
		wantNoFile(t, r.file[:n])
		return
	}
	p := open(t, r.file[:n], r.worlds[:ticks+1])
	p.seek(t, ticks+1)
	p.seek(t, ticks)
	p.move(t, -(ticks+1)/2)
}

func TestOpenOfFilesCutAnywhere(t *testing.T) {
	for _, every := range []int{1, 2, 3, 10, 64} {
		d := drawn{rand.New(rand.NewSource(int64(every)))}
		r := drawnRecording(t, d, every, 25)
		for n := range len(r.file) + 1 {
			r.openCut(t, n)
		}
	}
}

func TestOpenOfLongFilesCutAtATick(t *testing.T) {
	for _, every := range []int{1, 7, 64} {
		d := drawn{rand.New(rand.NewSource(int64(every)))}
		r := drawnRecording(t, d, every, 500)
		for tick := 500; tick >= 0; tick -= 1 + d.Intn(20) {
			stand := r.stands[tick]
			for n := stand - 2; n <= min(stand+2, len(r.file)); n++ {
				r.openCut(t, n)
			}
		}
	}
}

// The cut goes through the longest lines that there can be.
func TestOpenOfFullTicksCutAnywhere(t *testing.T) {
	var crowd []api.Command
	for id := range 32 {
		crowd = append(crowd, spawn(id, id%2, float32(id)/7, -float32(id)/3), push(id, 1.0/7, -1.0/3))
	}
	r := newRecording(t, 1, crowd, times(64, push(31, -0.1, -0.1)), times(64, api.Command{Kind: -1 << 63, ID: 1}))
	for n := range len(r.file) + 1 {
		r.openCut(t, n)
	}
}

// A file that was made earlier is opened later too.
func TestOpenOfAnOldFile(t *testing.T) {
	const file = "encore 2\n" +
		"0\n" +
		"2 1 3 0 41200000 4479c000 2 3 40800000 40000000 1 3 0 41600000 447a0000 40400000 bf400000 100\n" +
		"3 -5 3 3 99 4 31\n" +
		"1 3 3 1 0\n" +
		"1 2 9 80000000 7fc00000\n"
	p := open(t, file, []api.World{{}, {Tick: 1},
		{Tick: 2, Entities: []api.Entity{{ID: 3, X: 14, Y: 1000, VX: 3, VY: -0.75, Health: 100}}},
		{Tick: 3, Entities: []api.Entity{{ID: 3, X: 17, Y: 999.25, VX: 2.25, VY: -0.5625, Health: 1}}},
		{Tick: 4}, {Tick: 5}})
	for _, tick := range []int{3, 5, 2, 1, 4, 0} {
		p.seek(t, tick)
	}
}

// Seek begins at the last whole world: in this text, which nobody recorded,
// that is not where the commands lead, and it is the same whatever was shown
// ahead of it.
func TestSeekBeginsAtAWholeWorld(t *testing.T) {
	const file = "encore 2\n" +
		"1 1 9 0 0 0\n" +
		"0 1 3 0 41200000 4479c000 40800000 40000000 100\n" +
		"0\n" +
		"0 1 5 1 0 0 0 0 7\n" +
		"1 3 5 7\n"
	worlds := []api.World{{},
		{Tick: 1, Entities: []api.Entity{{ID: 9, Health: 100}}},
		{Tick: 2, Entities: []api.Entity{{ID: 3, X: 10, Y: 999, VX: 4, VY: 2, Health: 100}}},
		{Tick: 3, Entities: []api.Entity{{ID: 3, X: 14, Y: 1000, VX: 3, VY: -0.75, Health: 100}}},
		{Tick: 4, Entities: []api.Entity{{ID: 5, Team: 1, Health: 7}}},
		{Tick: 5}}
	for seed := range int64(20) {
		p := open(t, file, worlds)
		for _, tick := range rand.New(rand.NewSource(seed)).Perm(6) {
			p.seek(t, tick)
		}
	}
}

func TestOpenOfNoFile(t *testing.T) {
	for _, file := range []string{
		"", " ", "\n", "\n\n", "x", "x\n", "\x00", "\xff\xfe\n",
		// The first line.
		"encore", "encore\n", "encore \n", "encore 2", "encore  2\n", " encore 2\n", "encore 2 \n", "encore 2 2\n", "encore 2\r\n", "encore\t2\n",
		"Encore 2\n", "encor 2\n", "encored 2\n", "2 encore\n", "2\n", "encore x\n", "encore 2x\n", "encore 2.0\n", "encore 0x2\n", "encore 1_0\n",
		"encore 0\n", "encore -1\n", "encore 65\n", "encore 02\n", "encore +2\n", "encore -0\n", "encore 18446744073709551618\n", "encore 4294967298\n", "encore 258\n",
		"\nencore 2\n", "0\nencore 2\n", "encore 2\nencore 2\n",
	} {
		wantNoFile(t, file)
	}
	for _, line := range []string{
		"", " ", "x", "-1", "65", "+0", "-0", "00", "0x0", "0 ", " 0", "0\r", "0 0", "0 1", "0\x00", "1e0", "18446744073709551616", "9223372036854775807", "-9223372036854775808",
		// Commands.
		"1", "1 ", "1  5", "1 x", "1 5 5", "2 5", "1 5 0", "1 9223372036854775808",
		"1 4", "1 4 x", "1 4 3 0", "1 4 03", "1 4 18446744073709551616",
		"1 3 3", "1 3 3 1 1", "1 3 3 01", "1 3 3 1.5", "1 3 a 1",
		"1 2 3 0", "1 2 3 0 0 0", "1 2 3 x 0", "1 2 3 0 100000000", "1 2 3 -1 0", "1 2 3 0 7FC00000", "1 2 3 00 0", "1 2 3 0x1 0", "1 2 3 0 1_0", "1 2 3 +1 0",
		"1 1 3 0 0", "1 1 3 0 0 0 0", "1 1 3 x 0 0", "1 1 3 0 g 0", "1 1  3 0 0 0",
		strings.Repeat("1 ", 1<<16), "65" + strings.Repeat(" 5", 65), "64" + strings.Repeat(" 5", 63), "64" + strings.Repeat(" 5", 65),
	} {
		wantNoFile(t, "encore 2\n"+line+"\n")
		wantNoFile(t, "encore 2\n0\n0 0\n"+line+"\n0 0\n")
	}
}

func TestOpenOfNoWholeWorld(t *testing.T) {
	const fine = "3 1 447a0000 c47a0000 7f7fffff ff7fffff 100"
	open(t, "encore 1\n0 1 "+fine+"\n", []api.World{{}, {Tick: 1, Entities: []api.Entity{{ID: 3, Team: 1, X: 1000, Y: -1000, VX: huge, VY: -huge, Health: 100}}}})
	for _, entities := range []string{
		"", " ", "x", "-1", "1", "2", "33", "00", "9223372036854775807",
		"0 " + fine, "2 " + fine, "1 " + fine + " 0", "1  " + fine, "1 " + fine[:len(fine)-4],
		"1 -1 1 0 0 0 0 100", "1 32 1 0 0 0 0 100", "1 3 -1 0 0 0 0 100", "1 3 2 0 0 0 0 100", "1 3 1 0 0 0 0 0", "1 3 1 0 0 0 0 101", "1 3 1 0 0 0 0 -1",
		"1 3 1 447a0001 0 0 0 100", "1 3 1 0 c47a0001 0 0 100", "1 3 1 7fc00000 0 0 0 100", "1 3 1 0 7f800000 0 0 100",
		"1 3 1 0 0 7f800000 0 100", "1 3 1 0 0 0 ff800000 100", "1 3 1 0 0 7fc00000 0 100", "1 3 1 0 0 0 7f800001 100",
		"1 03 1 0 0 0 0 100", "1 3 1 00 0 0 0 100", "1 3 1 0 0 0 0 1e2",
		"2 " + fine + " " + fine, "2 4 1 0 0 0 0 9 " + fine,
		"33" + strings.Repeat(" "+fine, 33),
	} {
		wantNoFile(t, "encore 1\n0 "+entities+"\n")
		wantNoFile(t, "encore 3\n0\n0\n0 "+entities+"\n0\n")
		wantNoFile(t, "encore 1\n"+strings.Repeat("0 0\n", 499)+"0 "+entities+"\n")
	}
	// A whole world stands where it must, and nowhere else.
	for _, lines := range []string{"0 0\n", "0\n0\n", "0\n0 0\n0 0\n", "0\n0 0\n0\n0\n"} {
		wantNoFile(t, "encore 2\n"+lines)
	}
}

func TestOpenOfTooManyTicks(t *testing.T) {
	r := newRecording(t, 64, make([][]api.Command, 500)...)
	open(t, r.file, r.worlds).seek(t, 500)
	open(t, r.file+"0", r.worlds).seek(t, 500)
	wantNoFile(t, r.file+"0\n")
	wantNoFile(t, r.file+"0\n0")
	wantNoFile(t, "encore 64\n"+strings.Repeat("0\n", 1<<20))
}

// wantFileOrNot opens any text: P1 and P2 must hold, whatever it is.
func wantFileOrNot(t *testing.T, file string) {
	t.Helper()
	p, e := demo.Open(file)
	if (p == nil) != (e == 3) || e != 0 && e != 3 {
		t.Fatalf("Open(%q) = %v, %d", file, p, e)
	}
	if p == nil {
		return
	}
	if p.At() != 0 || p.Ticks() < 0 || p.Ticks() > 500 {
		t.Fatalf("Open(%q): %d ticks, at %d", file, p.Ticks(), p.At())
	}
	worlds := []api.World{{}}
	for tick := 1; tick <= p.Ticks(); tick++ {
		w, e := p.Move(1)
		if e != 0 || w.Tick != tick {
			t.Fatalf("Open(%q): at the tick %d %+v, %d", file, tick, w, e)
		}
		worlds = append(worlds, copyOf(w))
		spoil(w)
	}
	// Another player of the same text, looked at from the end.
	again := open(t, file, worlds)
	again.seek(t, p.Ticks()+1)
	for tick := p.Ticks(); tick >= 0; tick-- {
		again.seek(t, tick)
	}
	again.seek(t, -1)
}

func TestOpenOfOtherTexts(t *testing.T) {
	d := drawn{rand.New(rand.NewSource(30))}
	r := drawnRecording(t, d, 2, 12)
	file := r.file
	texts := []string{file[1:], file + "x", file + "\n", file + file, file + "x\n", strings.Repeat("\x00", 100), strings.Repeat("\xff", 1000), strings.Repeat(" ", 1<<20) + "\n", strings.Repeat("\n", 1<<20)}
	for i := range file {
		for _, b := range []byte{0, ' ', '\n', '-', '0', '1', '9', 'a', 'f', file[i] ^ 0x55, file[i] ^ 0x80, file[i] + 1} {
			changed := []byte(file)
			changed[i] = b
			texts = append(texts, string(changed))
		}
		texts = append(texts, file[:i]+file[i+1:], file[:i]+"0"+file[i:], file[:i]+" "+file[i:], file[:i]+"\n"+file[i:], file[i:], file[:i]+file[len(file)-i:])
	}
	for _, text := range texts {
		wantFileOrNot(t, text)
	}
}

// drawnText draws a text that looks like a file.
func (d drawn) text() string {
	var b strings.Builder
	fmt.Fprintf(&b, "encore %d\n", d.int(1, 5))
	for range d.Intn(10) {
		for range 1 + d.Intn(4)*d.Intn(4) {
			switch d.Intn(12) {
			case 0:
				fmt.Fprintf(&b, "%x ", d.Uint32())
			case 1:
				b.WriteString("\n")
			default:
				fmt.Fprintf(&b, "%d ", d.int(0, 4))
			}
		}
		b.WriteString("0\n")
	}
	return b.String()
}

func TestOpenOfDrawnTexts(t *testing.T) {
	for seed := range int64(3000) {
		d := drawn{rand.New(rand.NewSource(seed))}
		wantFileOrNot(t, d.text())
		lines := slices.Collect(strings.Lines(drawnRecording(t, d, 1+d.Intn(3), d.Intn(8)).file))
		d.Shuffle(len(lines)-1, func(i, j int) { lines[1+i], lines[1+j] = lines[1+j], lines[1+i] })
		wantFileOrNot(t, strings.Join(lines, ""))
	}
}

// P2: a text that is handed in is not kept, so that another may stand where it
// stood.
func TestTheTextIsNotKept(t *testing.T) {
	d := drawn{rand.New(rand.NewSource(40))}
	r := drawnRecording(t, d, 6, 50)
	room := []byte(r.file)
	p := open(t, unsafe.String(&room[0], len(room)), r.worlds)
	for i := range room {
		room[i] = '7'
	}
	for _, tick := range d.Perm(51) {
		p.seek(t, tick)
	}
}

func FuzzOpen(f *testing.F) {
	f.Add("encore 2\n0\n2 1 3 0 41200000 4479c000 2 3 40800000 40000000 1 3 0 41600000 447a0000 40400000 bf400000 100\n3 -5 3 3 99 4 31\n1 3 3 1 0\n")
	f.Add("encore 1\n1 1 31 1 c47a0000 0 1 31 1 c47a0000 0 0 0 100\n1 2 31")
	f.Fuzz(wantFileOrNot)
}
