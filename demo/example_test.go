package demo_test

import (
	"fmt"

	"encore/api"
	"encore/demo"
)

func ExampleRecorder() {
	r, _ := demo.NewRecorder(2)
	w, _ := r.Record([]api.Command{{Kind: api.Spawn, ID: 3, Team: 0, X: 10, Y: 20}})
	fmt.Printf("%+v\n", w)
	w, _ = r.Record([]api.Command{{Kind: api.Push, ID: 3, X: 4, Y: 2}})
	fmt.Printf("%+v\n", w)
	_, e := r.Record(make([]api.Command, 65))
	fmt.Println(e == api.ErrSize)
	fmt.Print(r.File())
	// Output:
	// {Tick:1 Entities:[{ID:3 Team:0 X:10 Y:20 VX:0 VY:0 Health:100}]}
	// {Tick:2 Entities:[{ID:3 Team:0 X:14 Y:22 VX:3 VY:1.5 Health:100}]}
	// true
	// encore 2
	// 1 1 3 0 41200000 41a00000
	// 1 2 3 40800000 40000000 1 3 0 41600000 41b00000 40400000 3fc00000 100
}

func ExamplePlayer() {
	r, _ := demo.NewRecorder(64)
	r.Record([]api.Command{{Kind: api.Spawn, ID: 3, Team: 0, X: 10, Y: 20}})
	r.Record([]api.Command{{Kind: api.Push, ID: 3, X: 4, Y: 2}})
	r.Record(nil)
	p, _ := demo.Open(r.File())
	fmt.Println(p.Ticks(), p.At())
	w, _ := p.Seek(3)
	fmt.Printf("%+v\n", w)
	_, e := p.Move(-4)
	fmt.Println(e == api.ErrRange, p.At())
	w, _ = p.Move(-1)
	fmt.Printf("%+v\n", w)
	cut, _ := demo.Open(r.File()[:len(r.File())-1])
	fmt.Println(cut.Ticks())
	// Output:
	// 3 0
	// {Tick:3 Entities:[{ID:3 Team:0 X:17 Y:23.5 VX:2.25 VY:1.125 Health:100}]}
	// true 3
	// {Tick:2 Entities:[{ID:3 Team:0 X:14 Y:22 VX:3 VY:1.5 Health:100}]}
	// 2
}
