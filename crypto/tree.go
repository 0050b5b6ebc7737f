package crypto

import (
	"iter"
	"slices"
)

const (
	maxLists = 1000
	maxPath  = 20
	alone    = -1 // stands in a path for the other element of a pair that has only one
	leafMark = 0
	nodeMark = 1
)

// Root returns the root of the hash tree of lists.
func Root(l [][]int) int {
	if len(l) > maxLists {
		return 0
	}
	root := empty
	for row := range rows(l) {
		root = row[0]
	}
	return root
}

// Path returns the path of an index in the hash tree of lists.
func Path(l [][]int, index int) []int {
	if len(l) > maxLists || index < 0 || index >= len(l) {
		return nil
	}
	var path []int
	for row := range rows(l) {
		if len(row) == 1 {
			break
		}
		other := alone
		if sibling := index ^ 1; sibling < len(row) {
			other = row[sibling]
		}
		path = append(path, other)
		index /= 2
	}
	return path
}

// Climb returns the digest that results from climbing from a list, and the lists whose digests are computed.
func Climb(list []int, index int, path []int) (int, [][]int) {
	if index < 0 || len(path) > maxPath || slices.ContainsFunc(path, isNoElement) {
		return 0, nil
	}
	var lists [][]int
	note := func(nums ...int) int {
		lists = append(lists, slices.Clone(nums))
		return digest(nums...)
	}
	h := note(leafMark, note(list...))
	for i := range len(path) {
		switch {
		case path[i] == alone:
		case index%2 == 1:
			h = note(nodeMark, path[i], h)
		default:
			h = note(nodeMark, h, path[i])
		}
		index /= 2
	}
	return h, lists
}

func isNoElement(x int) bool { return x < alone || x >= modulus }

// rows yields the rows of the hash tree of lists, from that of the leaves to that of the root.
func rows(l [][]int) iter.Seq[[]int] {
	return func(yield func([]int) bool) {
		var row []int
		for _, list := range l {
			row = append(row, digest(leafMark, digest(list...)))
		}
		for len(row) > 1 && yield(row) {
			row = above(row)
		}
		if len(row) == 1 {
			yield(row)
		}
	}
}

// above returns the row that follows a row.
func above(row []int) []int {
	var next []int
	for i := range len(row) / 2 {
		next = append(next, digest(nodeMark, row[2*i], row[2*i+1]))
	}
	if len(row)%2 == 1 {
		next = append(next, row[len(row)-1])
	}
	return next
}
