package tree

// What the tests of the package need to see of its inside.

const (
	Room  = room
	Least = least
)

// CutSizes cuts a list of things that have these sizes.
func CutSizes(sizes []int) [][]int {
	return cut(sizes, func(size int) int { return size })
}

// LeftSmall is how many nodes of the tree that is to be are too small, although they stand beside others.
func (t Tree) LeftSmall() int { return leftSmall(t.grown()) }

func leftSmall(level []node) int {
	sum := 0
	for _, n := range level {
		if len(level) > 1 && tooSmall(n) {
			sum++
		}
		sum += leftSmall(n.kids)
	}
	return sum
}
