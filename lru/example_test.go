package lru_test

import (
	"fmt"

	"encore/lru"
)

func ExampleCache() {
	c, _ := lru.New[int, string](2)
	c.Put(1, "a")
	c.Put(2, "b")
	fmt.Println(c.Get(1))
	c.Put(3, "c")
	fmt.Println(c.Keys())
	_, there := c.Get(2)
	fmt.Println(there)
	// Output:
	// a true
	// [3 1]
	// false
}
