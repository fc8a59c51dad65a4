// Package config: which configurations are right.
package config

import (
	"slices"

	"estuary/api"
	"estuary/words"
)

const (
	minNodes = 2
	origin   = 0
	noParent = -1
)

// Right tells whether a configuration is right.
func Right(c api.Config) bool {
	return rightParents(c.Parents) &&
		words.Within(c.Drift, 0, api.MaxDrift) &&
		words.Within(c.Budget, 1, api.MaxBudget) &&
		words.Within(c.Entries, 1, api.MaxEach) &&
		words.Within(c.Waiters, 1, api.MaxEach)
}

func rightParents(parents []int) bool {
	if !words.Within(len(parents), minNodes, api.MaxNodes) || parents[origin] != noParent {
		return false
	}
	for node := range parents {
		if !comesToOrigin(parents, node) {
			return false
		}
	}
	return true
}

// comesToOrigin goes on from parent to parent. Whoever has not come to the origin after as many steps as there are nodes goes round in a ring.
func comesToOrigin(parents []int, node int) bool {
	for range parents {
		if node == origin {
			return true
		}
		node = parents[node]
		if !words.Within(node, 0, len(parents)-1) {
			return false
		}
	}
	return false
}

// Copy makes a configuration that shares no room with c.
func Copy(c api.Config) api.Config {
	c.Parents = slices.Clone(c.Parents)
	return c
}
