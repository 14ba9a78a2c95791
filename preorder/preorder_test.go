package preorder_test

import (
	"math"
	"slices"
	"testing"

	"cspcheck/api"
	"cspcheck/preorder"
)

// tree is the tree 1 (2 (3, 4), 5 (6)); its numbers are operators.
func tree() preorder.Tree {
	return preorder.New([]api.Node{{Op: 1, Kids: 2}, {Op: 2, Kids: 2}, {Op: 3}, {Op: 4}, {Op: 5, Kids: 1}, {Op: 6}})
}

func TestEnds(t *testing.T) {
	if got, want := tree().Ends, []int{6, 4, 3, 4, 6, 6}; !slices.Equal(got, want) {
		t.Errorf("Ends = %v, want %v", got, want)
	}
	if got := preorder.New(nil).Ends; len(got) != 0 {
		t.Errorf("Ends of no nodes = %v", got)
	}
}

func TestKids(t *testing.T) {
	for i, want := range [][]int{{1, 4}, {2, 3}, nil, nil, {5}, nil} {
		if got := tree().Kids(i); !slices.Equal(got, want) {
			t.Errorf("Kids(%d) = %v, want %v", i, got, want)
		}
	}
}

func TestSubtree(t *testing.T) {
	for i, want := range []int{6, 3, 1, 1, 2, 1} {
		got := tree().Subtree(i)
		if len(got) != want || got[0].Op != i+1 {
			t.Errorf("Subtree(%d) = %v, want %d nodes from %d on", i, got, want, i+1)
		}
	}
}

func TestInScopeOrder(t *testing.T) {
	leaf := func(op int) api.Node { return api.Node{Op: op} }
	for _, op := range []int{api.OpGen, api.OpInput, api.OpSome, api.OpSeqComp, api.OpSetComp, api.OpEvComp} {
		tree := preorder.New([]api.Node{{Op: op, Kids: 2}, leaf(api.OpName), leaf(api.OpName)})
		if got := tree.InScopeOrder(0); !slices.Equal(got, []int{2, 1}) {
			t.Errorf("InScopeOrder of an operator %d = %v", op, got)
		}
	}
	tree := preorder.New([]api.Node{{Op: api.OpParams, Kids: 5}, leaf(api.OpPair), leaf(api.OpGen), leaf(api.OpPair), leaf(api.OpName), leaf(api.OpGen)})
	if got := tree.InScopeOrder(0); !slices.Equal(got, []int{2, 4, 5, 1, 3}) {
		t.Errorf("InScopeOrder of Params = %v", got)
	}
	tree = preorder.New([]api.Node{{Op: api.OpMap, Kids: 2}, leaf(api.OpPair), leaf(api.OpPair)})
	if got := tree.InScopeOrder(0); !slices.Equal(got, []int{1, 2}) {
		t.Errorf("InScopeOrder of a Map = %v", got)
	}
	tree = preorder.New([]api.Node{{Op: api.OpInput, Kids: 1}, leaf(api.OpName)})
	if got := tree.InScopeOrder(0); !slices.Equal(got, []int{1}) {
		t.Errorf("InScopeOrder of an Input without a set = %v", got)
	}
}

func TestPartsOfLists(t *testing.T) {
	x := tree()
	for i := range x.Nodes {
		if got := preorder.End(x.Nodes, i); got != x.Ends[i] {
			t.Errorf("End(%d) = %d, want %d", i, got, x.Ends[i])
		}
		if got := preorder.Kids(x.Nodes, i); !slices.Equal(got, x.Kids(i)) {
			t.Errorf("Kids(%d) = %v, want %v", i, got, x.Kids(i))
		}
	}
}

func TestPartsOfListsThatAreNoTrees(t *testing.T) {
	for _, kids := range []int{math.MinInt, -1, 3, math.MaxInt} {
		for at := range 3 {
			l := []api.Node{{Kids: 2}, {}, {}}
			l[at].Kids = kids
			for i := range l {
				if end := preorder.End(l, i); end <= i || end > len(l) {
					t.Errorf("End(%v, %d) = %d", l, i, end)
				}
				for _, k := range preorder.Kids(l, i) {
					if k <= i || k >= len(l) {
						t.Errorf("Kids(%v, %d) has %d", l, i, k)
					}
				}
			}
		}
	}
	if end := preorder.End(nil, 0); end != 0 {
		t.Errorf("End(nil, 0) = %d", end)
	}
}
