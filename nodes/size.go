package nodes

// Size is the size of the type that a node stands for, or most+1 if it is above most; and false if that type would hold itself. Each class is measured once, since a type can be far larger than its nodes are many.
func (n *Node) Size(most int) (int, bool) {
	return sizer{most: most, sizes: map[*Node]int{}}.size(n)
}

type sizer struct {
	most  int
	sizes map[*Node]int // by the heads of the classes that were met
}

// begun is the size of a class whose parts are still being measured.
const begun = 0

func (s sizer) size(n *Node) (int, bool) {
	n = n.head()
	if size, met := s.sizes[n]; met {
		return size, size != begun
	}
	s.sizes[n] = begun
	sum := 1
	for _, part := range n.parts {
		size, ends := s.size(part)
		if !ends {
			return 0, false
		}
		sum = min(sum+size, s.most+1)
	}
	s.sizes[n] = sum
	return sum, true
}
