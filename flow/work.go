package flow

import (
	"slices"
	"strconv"
)

// put hands a value on.
type put func(value)

// work is what a stage does in one run: each with every value that comes, last behind all of them, if no error has come. What it has gathered so far lies in the two functions. Where one of them answers an error, the stream ends behind what it has put.
type work struct {
	each func(v value, out put) error
	last func(out put) error
}

// maker is a row of the stages' table.
type maker struct {
	name  string
	begin func(k int) work
}

// makers is the stages' table, but for those that take other things than values and a K.
func makers() []maker {
	return []maker{
		{"add", func(k int) work { return one(func(n number) value { return n + number(k) }) }},
		{"mul", func(k int) work { return one(func(n number) value { return n * number(k) }) }},
		{"even", func(int) work { return those(func(n number) bool { return n%2 == 0 }) }},
		{"ints", func(int) work { return only[number]() }},
		{"words", func(int) work { return only[word]() }},
		{"waves", func(int) work { return only[wave]() }},
		{"turn", func(int) work { return one(turned) }},
		{"len", func(int) work { return one(length) }},
		{"pair", func(int) work { return pairs() }},
		{"spin", func(k int) work { return one(func(w wave) value { return w * turns(k) }) }},
		{"norm", func(int) work { return one(norm) }},
		{"dft", func(int) work { return fours() }},
		{"sum", sums},
		{"sort", func(int) work { return sorted() }},
		{"count", func(int) work { return counts() }},
		{"skip", skips},
		{"twice", func(int) work { return twice() }},
	}
}

func beginOf(name string, k int) work {
	for _, m := range makers() {
		if m.name == name {
			return m.begin(k)
		}
	}
	return work{}
}

// of is for a stage that takes values of one kind alone.
func of[T value](f func(v T, out put) error) func(value, put) error {
	return func(v value, out put) error {
		t, ok := v.(T)
		if !ok {
			return ErrKind
		}
		return f(t, out)
	}
}

func one[T value](f func(T) value) work {
	return work{each: of(func(v T, out put) error {
		out(f(v))
		return nil
	})}
}

func those[T value](keep func(T) bool) work {
	return work{each: of(func(v T, out put) error {
		if keep(v) {
			out(v)
		}
		return nil
	})}
}

func only[T value]() work {
	return work{each: func(v value, out put) error {
		if _, ok := v.(T); ok {
			out(v)
		}
		return nil
	}}
}

func twice() work {
	return work{each: func(v value, out put) error {
		out(v)
		out(v)
		return nil
	}}
}

func skips(k int) work {
	return work{each: func(v value, out put) error {
		if k > 0 {
			k--
		} else {
			out(v)
		}
		return nil
	}}
}

func turned(w word) value {
	runes := []rune(w)
	slices.Reverse(runes)
	return word(runes)
}

func length(w word) value {
	n := number(0)
	for range w {
		n++
	}
	return n
}

// turns is i to the k.
func turns(k int) wave {
	t := wave(1)
	for range (k%4 + 4) % 4 {
		t *= 1i
	}
	return t
}

// norm reckons with integers: the squares are beyond what a float holds exactly, and the integers' wrap-round keeps the lowest bits.
func norm(w wave) value { return number(w.re()*w.re() + w.im()*w.im()) }

func pairs() work {
	var left []number
	return work{
		each: of(func(n number, out put) error {
			left = append(left, n)
			if len(left) == 2 {
				out(wave(complex(float64(left[0]), float64(left[1]))))
				left = nil
			}
			return nil
		}),
		last: func(out put) error {
			for _, n := range left {
				out(wave(complex(float64(n), 0)))
			}
			return nil
		},
	}
}

func sums(k int) work {
	total, have := number(0), 0
	return work{
		each: of(func(n number, out put) error {
			total += n
			have++
			if have == k {
				out(total)
				total, have = 0, 0
			}
			return nil
		}),
		last: func(out put) error {
			if have > 0 {
				out(total)
			}
			return nil
		},
	}
}

func fours() work {
	var four [4]wave
	have := 0
	return work{
		each: of(func(w wave, out put) error {
			four[have] = w
			have++
			if have < len(four) {
				return nil
			}
			err := transform(four, out)
			four, have = [4]wave{}, 0
			return err
		}),
		last: func(out put) error {
			if have == 0 {
				return nil
			}
			return transform(four, out)
		},
	}
}

func transform(four [4]wave, out put) error {
	for k := range four {
		sum := wave(0)
		for j, w := range four {
			sum += w * turns(-j*k)
		}
		if sum.big() {
			return ErrBig
		}
		out(sum)
	}
	return nil
}

// folds: of none there is nothing to begin with, so the first number is what the others are folded into.
func folds(how string) work {
	var total number
	have := false
	return work{
		each: of(func(n number, out put) error {
			switch {
			case !have:
				total, have = n, true
			case how == "max":
				total = max(total, n)
			case how == "min":
				total = min(total, n)
			default:
				total += n
			}
			return nil
		}),
		last: func(out put) error {
			if have {
				out(total)
			}
			return nil
		},
	}
}

func sorted() work {
	var all []value
	return work{
		each: func(v value, out put) error {
			all = append(all, v)
			return nil
		},
		last: func(out put) error {
			slices.SortFunc(all, inOrder)
			for _, v := range all {
				out(v)
			}
			return nil
		},
	}
}

func counts() work {
	var all []value
	often := make(map[Item]int)
	return work{
		each: func(v value, out put) error {
			i := v.item()
			if often[i] == 0 {
				all = append(all, v)
			}
			often[i]++
			return nil
		},
		last: func(out put) error {
			slices.SortFunc(all, inOrder)
			for _, v := range all {
				out(word(v.text() + "*" + strconv.Itoa(often[v.item()])))
			}
			return nil
		},
	}
}
