package crypto_test

import (
	"math/big"
	"math/rand"
)

var prime = big.NewInt(2147483647)

func mod(n int) *big.Int { return new(big.Int).Mod(big.NewInt(int64(n)), prime) }

// refSum computes digests with numbers of any size.
func refSum(nums ...int) int {
	h := big.NewInt(7)
	for _, n := range nums {
		h.Mul(h, big.NewInt(1000003))
		h.Add(h, mod(n))
		h.Add(h, big.NewInt(1))
		h.Mod(h, prime)
	}
	return int(h.Int64())
}

func refTag(key int, nums []int) int {
	l := []int{key, len(nums)}
	return refSum(append(l, nums...)...)
}

func refPower(base, secret int) int {
	e := new(big.Int).Mod(big.NewInt(int64(secret)), big.NewInt(2147483646))
	return int(new(big.Int).Exp(mod(base), e, prime).Int64())
}

func refLeaf(list []int) int { return refSum(0, refSum(list...)) }

// refTree returns all rows of the hash tree.
func refTree(l [][]int) [][]int {
	var row []int
	for _, list := range l {
		row = append(row, refLeaf(list))
	}
	tree := [][]int{row}
	for len(row) > 1 {
		var next []int
		for i := 0; i < len(row); i += 2 {
			if i+1 < len(row) {
				next = append(next, refSum(1, row[i], row[i+1]))
			} else {
				next = append(next, row[i])
			}
		}
		row = next
		tree = append(tree, row)
	}
	return tree
}

func refRoot(l [][]int) int {
	if len(l) == 0 {
		return 7
	}
	tree := refTree(l)
	return tree[len(tree)-1][0]
}

func refPath(l [][]int, index int) []int {
	tree := refTree(l)
	var path []int
	for _, row := range tree[:len(tree)-1] {
		switch {
		case index%2 == 1:
			path = append(path, row[index-1])
		case index+1 < len(row):
			path = append(path, row[index+1])
		default:
			path = append(path, -1)
		}
		index /= 2
	}
	return path
}

// refClimb returns the digest of a climb and its lists.
func refClimb(list []int, index int, path []int) (int, [][]int) {
	lists := [][]int{list, {0, refSum(list...)}}
	h := refLeaf(list)
	for _, x := range path {
		if x != -1 {
			pair := []int{1, h, x}
			if index%2 == 1 {
				pair = []int{1, x, h}
			}
			lists = append(lists, pair)
			h = refSum(pair...)
		}
		index /= 2
	}
	return h, lists
}

// treeLists returns the lists whose digests are computed for a tree.
func treeLists(l [][]int) [][]int {
	var lists [][]int
	for _, list := range l {
		lists = append(lists, list, []int{0, refSum(list...)})
	}
	for _, row := range refTree(l) {
		for i := 0; i+1 < len(row); i += 2 {
			lists = append(lists, []int{1, row[i], row[i+1]})
		}
	}
	return lists
}

// maker makes up numbers and lists.
type maker struct{ *rand.Rand }

func (m maker) chance(n int) bool { return m.Intn(n) == 0 }

func (m maker) number() int {
	switch m.Intn(5) {
	case 0:
		return []int{0, -1, 1, 2147483646, 2147483647, 2147483648, -2147483647, 1<<63 - 1, -1 << 63}[m.Intn(9)]
	case 1:
		return int(m.Uint64())
	}
	return m.Intn(2000) - 1000
}

func (m maker) list() []int {
	var l []int
	for range m.Intn(6) {
		l = append(l, m.number())
	}
	return l
}

func (m maker) lists(n int) [][]int {
	var l [][]int
	for range n {
		l = append(l, m.list())
	}
	return l
}

// twin returns another list with the same digest; it needs two numbers.
func twin(l []int) []int {
	other := append([]int{}, l...)
	n := len(other)
	other[n-2], other[n-1] = int(mod(other[n-2]).Int64())+1, int(mod(other[n-1]).Int64())-1000003
	return other
}
