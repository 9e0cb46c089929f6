package flow

import (
	"cmp"
	"strconv"
)

// mostPart is the greatest amount of a wave's part: all that stages make of such parts is exact in a complex128.
const mostPart = 1 << 40

// value is what flows between stages: a number, a word or a wave.
type value interface {
	item() Item
	text() string
}

type number int32

type word string

// wave: its parts are whole.
type wave complex128

const (
	kindNumber = iota
	kindWord
	kindWave
)

// valueOf answers false of an item that is no value.
func valueOf(i Item) (value, bool) {
	switch i.Kind {
	case kindNumber:
		return number(i.N), true
	case kindWord:
		return word(i.S), true
	case kindWave:
		if tooBig(i.Re) || tooBig(i.Im) {
			return nil, false
		}
		return wave(complex(float64(i.Re), float64(i.Im))), true
	}
	return nil, false
}

// valuesOf answers false if one of the items is no value: then the values are those ahead of it.
func valuesOf(items []Item) ([]value, bool) {
	var values []value
	for _, i := range items {
		v, ok := valueOf(i)
		if !ok {
			return values, false
		}
		values = append(values, v)
	}
	return values, true
}

func tooBig(part int64) bool { return part < -mostPart || part > mostPart }

func (n number) item() Item { return Item{Kind: kindNumber, N: int32(n)} }

func (w word) item() Item { return Item{Kind: kindWord, S: string(w)} }

func (w wave) item() Item { return Item{Kind: kindWave, Re: w.re(), Im: w.im()} }

func (w wave) re() int64 { return int64(real(w)) }

func (w wave) im() int64 { return int64(imag(w)) }

func (w wave) big() bool { return tooBig(w.re()) || tooBig(w.im()) }

func (n number) text() string { return strconv.Itoa(int(n)) }

func (w word) text() string { return string(w) }

func (w wave) text() string {
	sign := ""
	if w.im() >= 0 {
		sign = "+"
	}
	return strconv.FormatInt(w.re(), 10) + sign + strconv.FormatInt(w.im(), 10) + "i"
}

// inOrder compares two values, as slices.SortFunc asks for it.
func inOrder(a, b value) int {
	switch a := a.(type) {
	case number:
		if b, ok := b.(number); ok {
			return cmp.Compare(a, b)
		}
	case word:
		if b, ok := b.(word); ok {
			return cmp.Compare(a, b)
		}
	case wave:
		if b, ok := b.(wave); ok {
			return cmp.Or(cmp.Compare(a.re(), b.re()), cmp.Compare(a.im(), b.im()))
		}
	}
	return cmp.Compare(a.item().Kind, b.item().Kind)
}
