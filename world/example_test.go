package world_test

import (
	"fmt"

	"encore/api"
	"encore/world"
)

func ExampleStep() {
	w, _ := world.Step(api.World{}, []api.Command{
		{Kind: api.Spawn, ID: 3, Team: 0, X: 10, Y: 999},
		{Kind: api.Push, ID: 3, X: 4, Y: 2},
	})
	fmt.Printf("%+v\n", w)
	w, _ = world.Step(w, nil)
	fmt.Printf("%+v\n", w)
	// Output:
	// {Tick:1 Entities:[{ID:3 Team:0 X:14 Y:1000 VX:3 VY:-0.75 Health:100}]}
	// {Tick:2 Entities:[{ID:3 Team:0 X:17 Y:999.25 VX:2.25 VY:-0.5625 Health:100}]}
}

func ExampleSeen() {
	w := api.World{Tick: 8, Entities: []api.Entity{
		{ID: 0, Team: 0, Health: 100},
		{ID: 1, Team: 1, X: 3, Y: 4, Health: 100},
		{ID: 2, Team: 1, X: 3, Y: 4.5, Health: 100},
		{ID: 3, Team: 0, X: -900, Y: 900, Health: 100},
	}}
	seen, _ := world.Seen(w, 0, 5)
	for _, e := range seen.Entities {
		fmt.Println(e.ID)
	}
	// Output:
	// 0
	// 1
	// 3
}
