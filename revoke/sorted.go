package revoke

// sorted is a list in strictly increasing order.
type sorted[T any] struct {
	list    []T
	compare func(a, b T) int
}

// has reports whether an element is in the list.
func (s sorted[T]) has(element T) bool {
	low, high := 0, len(s.list)
	for low < high {
		middle := (low + high) / 2
		switch c := s.compare(s.list[middle], element); {
		case c == 0:
			return true
		case c < 0:
			low = middle + 1
		default:
			high = middle
		}
	}
	return false
}

// merge returns the elements of both lists, each once.
func (s sorted[T]) merge(other sorted[T]) sorted[T] {
	union := sorted[T]{compare: s.compare}
	rest := other.list
outer:
	for _, element := range s.list {
		for len(rest) > 0 {
			switch c := s.compare(rest[0], element); {
			case c > 0:
				union.list = append(union.list, element)
				continue outer
			case c < 0:
				union.list = append(union.list, rest[0])
			}
			rest = rest[1:]
		}
		union.list = append(union.list, element)
	}
	union.list = append(union.list, rest...)
	return union
}
