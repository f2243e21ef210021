package told_test

import (
	"slices"
	"testing"

	"marquetry/api"
	"marquetry/internal/told"
)

// Steps that may not be add nothing; behind them others still may come, till all is told.
func TestSteps(t *testing.T) {
	all := told.New(6, 1)
	for _, c := range []struct {
		step api.Token
		ok   bool
		left int
	}{
		{api.Token{Kind: api.Copy, Len: 1, Dist: 1}, false, 6},
		{api.Token{Kind: api.Literal, Argb: 1}, true, 5},
		{api.Token{Kind: api.Copy, Len: 1, Dist: 2}, false, 5},
		{api.Token{Kind: api.Copy, Len: 6, Dist: 1}, false, 5},
		{api.Token{Kind: api.Known, Index: 2}, false, 5},
		{api.Token{}, false, 5},
		{api.Token{Kind: api.Literal, Argb: 7}, true, 4},
		{api.Token{Kind: api.Copy, Len: 3, Dist: 2}, true, 1},
		{api.Token{Kind: api.Known, Index: 1}, true, 0},
		{api.Token{Kind: api.Literal, Argb: 9}, false, 0},
	} {
		if ok := all.Step(c.step); ok != c.ok || all.Left() != c.left {
			t.Errorf("Step(%+v) = %v, %d left; want %v, %d", c.step, ok, all.Left(), c.ok, c.left)
		}
	}
	if got := all.Pix(); !slices.Equal(got, []uint32{1, 7, 1, 7, 1, 7}) {
		t.Errorf("Pix = %v", got)
	}
	if none := told.New(3, 0); none.Step(api.Token{Kind: api.Known}) {
		t.Error("a cache of 0 bits has a place")
	}
}
