package preorder_test

import (
	"slices"
	"testing"

	"cspcheck/api"
	"cspcheck/preorder"
)

// tree is the tree 1 (2 (3, 4), 5 (6)); its numbers are operators.
func tree() preorder.Tree {
	return preorder.New([]api.Node{{Op: 1, Kids: 2}, {Op: 2, Kids: 2}, {Op: 3}, {Op: 4}, {Op: 5, Kids: 1}, {Op: 6}})
}

func TestEnds(t *testing.T) {
	if got, want := tree().Ends, []int{6, 4, 3, 4, 6, 6}; !slices.Equal(got, want) {
		t.Errorf("Ends = %v, want %v", got, want)
	}
	if got := preorder.New(nil).Ends; len(got) != 0 {
		t.Errorf("Ends of no nodes = %v", got)
	}
}

func TestKids(t *testing.T) {
	for i, want := range [][]int{{1, 4}, {2, 3}, nil, nil, {5}, nil} {
		if got := tree().Kids(i); !slices.Equal(got, want) {
			t.Errorf("Kids(%d) = %v, want %v", i, got, want)
		}
	}
}

func TestSubtree(t *testing.T) {
	for i, want := range []int{6, 3, 1, 1, 2, 1} {
		got := tree().Subtree(i)
		if len(got) != want || got[0].Op != i+1 {
			t.Errorf("Subtree(%d) = %v, want %d nodes from %d on", i, got, want, i+1)
		}
	}
}
