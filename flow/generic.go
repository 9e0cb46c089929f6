package flow

// Fold goes over a list with what it has made so far (P9).
func Fold[T, A any](l []T, a A, f func(A, T) A) A {
	if f == nil {
		return a
	}
	for _, v := range l {
		a = f(a, v)
	}
	return a
}

// Keep answers those of which f says true (P9).
func Keep[T any](l []T, f func(T) bool) []T {
	if f == nil {
		return nil
	}
	var kept []T
	for _, v := range l {
		if f(v) {
			kept = append(kept, v)
		}
	}
	return kept
}

// Tally counts how often each value stands in a list (P9).
func Tally[T comparable](l []T) map[T]int {
	m := make(map[T]int)
	for _, v := range l {
		addOne(m, v)
	}
	return m
}

// addOne recovers because T may be an interface: a slice in it can't be a key, and the map panics. Such a value is left out.
func addOne[T comparable](m map[T]int, v T) {
	defer func() {
		_ = recover()
	}()
	m[v]++
}
