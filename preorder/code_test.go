package preorder_test

import (
	"math"
	"slices"
	"testing"

	"cspcheck/api"
	"cspcheck/preorder"
)

// code is the tree 1 (2 (3, 4), 5 (6)) as code.
func code() []api.Code {
	return []api.Code{{Op: 1, Kids: 2}, {Op: 2, Kids: 2}, {Op: 3}, {Op: 4}, {Op: 5, Kids: 1}, {Op: 6}}
}

func TestCode(t *testing.T) {
	x, ok := preorder.NewCode(code())
	if want := []int{6, 4, 3, 4, 6, 6}; !ok || !slices.Equal(x.Ends, want) {
		t.Errorf("NewCode: Ends = %v, %v, want %v", x.Ends, ok, want)
	}
	for i, want := range [][]int{{1, 4}, {2, 3}, nil, nil, {5}, nil} {
		if got := x.Kids(i); !slices.Equal(got, want) {
			t.Errorf("Kids(%d) = %v, want %v", i, got, want)
		}
	}
	for i, want := range []int{6, 3, 1, 1, 2, 1} {
		if got := x.Subtree(i); len(got) != want || got[0].Op != i+1 {
			t.Errorf("Subtree(%d) = %v, want %d nodes from %d on", i, got, want, i+1)
		}
	}
}

func TestListsThatAreNoCode(t *testing.T) {
	lists := [][]api.Code{nil, {}, append(code(), api.Code{}), code()[:5], code()[1:]}
	for _, kids := range []int{math.MinInt, -1, 0, 3, math.MaxInt} {
		for at := range 2 {
			l := code()
			l[at].Kids = kids
			lists = append(lists, l)
		}
	}
	for _, l := range lists {
		if x, ok := preorder.NewCode(l); ok || len(x.Nodes) > 0 || len(x.Ends) > 0 {
			t.Errorf("NewCode(%v) = %v, %v", l, x, ok)
		}
	}
}

func TestDepth(t *testing.T) {
	for _, test := range []struct {
		kids []int // of each node
		want int
	}{
		{[]int{0}, 1}, {[]int{2, 0, 0}, 2}, {[]int{2, 2, 0, 0, 1, 0}, 3}, {[]int{2, 0, 1, 1, 0}, 4}, {[]int{2, 1, 1, 0, 0}, 4}, {[]int{3, 1, 0, 0, 1, 0}, 3}, {slices.Concat(slices.Repeat([]int{1}, 999), []int{0}), 1000},
	} {
		var l []api.Code
		for _, k := range test.kids {
			l = append(l, api.Code{Kids: k})
		}
		if x, ok := preorder.NewCode(l); !ok || x.Depth() != test.want {
			t.Errorf("Depth of %v = %d, %v, want %d", test.kids, x.Depth(), ok, test.want)
		}
	}
	if got := (preorder.Code{}).Depth(); got != 0 {
		t.Errorf("Depth of no nodes = %d", got)
	}
}
