package scope

import "slices"

// grouping finds the groups of units that use each other, by Tarjan's method, and their order.
type grouping struct {
	uses    [][]int // by unit, the units that it uses
	visit   []int   // by unit, the number of its visit, from 1 on, or 0
	low     []int   // by unit, the first visit among those of the open units that are known to be reached from it
	open    []int   // the visited units whose groups are not known yet, in the order of their visits
	leaders []int   // by unit, the least unit of its group, or -1
	visits  int
}

// leadersOf returns for each unit the least unit of its group.
func leadersOf(uses [][]int) []int {
	n := len(uses)
	g := &grouping{uses: uses, visit: make([]int, n), low: make([]int, n), leaders: slices.Repeat([]int{-1}, n)}
	for u := range uses {
		if g.visit[u] == 0 {
			g.search(u)
		}
	}
	return g.leaders
}

// search visits a unit and all units that are reached from it.
func (g *grouping) search(u int) {
	g.visits++
	g.visit[u] = g.visits
	g.low[u] = g.visits
	first := len(g.open)
	g.open = append(g.open, u)
	for _, v := range g.uses[u] {
		switch {
		case g.visit[v] == 0:
			g.search(v)
			g.low[u] = min(g.low[u], g.low[v])
		case g.leaders[v] < 0:
			g.low[u] = min(g.low[u], g.visit[v])
		}
	}
	if g.low[u] == g.visit[u] {
		g.close(first)
	}
}

// close makes the open units from a place on a group.
func (g *grouping) close(first int) {
	members := g.open[first:]
	leader := slices.Min(members)
	for _, u := range members {
		g.leaders[u] = leader
	}
	g.open = g.open[:first]
}

// inOrder returns the leaders of the groups such that each group comes after those that its units use, and otherwise the one with the least leader comes first.
func inOrder(uses [][]int, leaders []int) []int {
	waiting := make([]int, len(uses)) // by leader, for how many uses of groups that have not come yet
	users := make([][]int, len(uses)) // by leader, the leaders of the groups of these uses
	groups := 0
	for u, leader := range leaders {
		if u == leader {
			groups++
		} else {
			waiting[u] = -1
		}
		for _, v := range uses[u] {
			if used := leaders[v]; used != leader {
				waiting[leader]++
				users[used] = append(users[used], leader)
			}
		}
	}
	var order []int
	for range groups {
		next := slices.Index(waiting, 0)
		waiting[next] = -1
		order = append(order, next)
		for _, user := range users[next] {
			waiting[user]--
		}
	}
	return order
}
