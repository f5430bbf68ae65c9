package play_test

import (
	"fmt"

	"moraine/api"
	"moraine/disk"
	"moraine/play"
	"moraine/store"
)

// Example is what README.md shows.
func Example() {
	d, _ := disk.New(64)
	s, _, _ := store.Open(d, 16)
	s.Commit([]api.Txn{{Base: 0, Ops: []api.Op{
		{Kind: api.OpClass, Def: api.Class{Name: "node", Fields: []api.Field{{Name: "n", Type: api.Type{Kind: api.Num}}}}},
		{Kind: api.OpNew, Class: "node", Vals: []api.Val{{Kind: api.Num, N: 7}}},
		{Kind: api.OpRoot, Name: "top", ID: -1},
	}}})
	answer, _ := s.Ask("top.n")
	s.Collect(100)
	fmt.Println(answer[0].N)
	text, _, _ := play.Text(64, 16, "commit 0 : class node n:num ; new node 7 ; root top -1\ncrash\nask \"top.n\"\n")
	fmt.Print(text)
	// Output:
	// 7
	// commit 0 : 1
	// crash : 1
	// ask 7
}
