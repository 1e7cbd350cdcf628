package live

import (
	"cmp"
	"slices"
)

// set is of registers, or of blocks.
type set[T cmp.Ordered] map[T]struct{}

func (s set[T]) has(x T) bool {
	_, is := s[x]
	return is
}

func (s set[T]) add(l ...T) {
	for _, x := range l {
		s[x] = struct{}{}
	}
}

func (s set[T]) remove(l ...T) {
	for _, x := range l {
		delete(s, x)
	}
}

// graph leads from things to sets of others, which may be of another kind.
type graph[T, U cmp.Ordered] map[T]set[U]

func (g graph[T, U]) link(from T, to U) {
	if g[from] == nil {
		g[from] = set[U]{}
	}
	g[from].add(to)
}

// rising are the keys of a set, or of a graph.
func rising[K cmp.Ordered, V any](m map[K]V) []K {
	out := slices.Grow([]K(nil), len(m))
	for k := range m {
		out = append(out, k)
	}
	slices.Sort(out)
	return out
}
