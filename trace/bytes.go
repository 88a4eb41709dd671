package trace

import (
	"bytes"
	"slices"

	"plait/api"
)

const (
	head      = "PLT1" // what a trace's bytes begin with
	width     = 4      // how many bytes a number takes
	topNumber = 1<<31 - 1
)

// Encode writes steps.
func Encode(l []Step) ([]byte, api.Errno) {
	size := len(head) + width
	for _, s := range l {
		if slices.ContainsFunc(s.From, isNoNumber) {
			return nil, api.ErrTraceForm
		}
		size += width * (1 + len(s.From))
	}
	if size > api.MaxTrace {
		return nil, api.ErrTraceLong
	}
	b := append(make([]byte, 0, size), head...)
	b = put(b, len(l))
	for _, s := range l {
		b = put(b, len(s.From))
		for _, n := range s.From {
			b = put(b, n)
		}
	}
	return b, api.OK
}

// isNoNumber tells whether a number can't be written.
func isNoNumber(n int) bool { return n < 0 || n > topNumber }

// put writes a number behind other bytes.
func put(b []byte, n int) []byte {
	for i := range width {
		b = append(b, byte(n>>(8*(width-1-i))))
	}
	return b
}

// Decode reads them.
func Decode(b []byte) ([]Step, api.Errno) {
	if len(b) > api.MaxTrace {
		return nil, api.ErrTraceLong
	}
	rest, found := bytes.CutPrefix(b, []byte(head))
	if !found || len(rest) < width || len(rest)%width != 0 {
		return nil, api.ErrTraceForm
	}
	numbers := numbersOf(rest)
	if slices.ContainsFunc(numbers, isNoNumber) {
		return nil, api.ErrTraceForm
	}
	steps, whole := stepsOf(numbers[0], numbers[1:])
	if !whole {
		return nil, api.ErrTraceForm
	}
	return steps, api.OK
}

// numbersOf reads all numbers of bytes.
func numbersOf(b []byte) []int {
	numbers := make([]int, len(b)/width)
	for i, x := range b {
		numbers[i/width] = numbers[i/width]<<8 | int(x)
	}
	return numbers
}

// stepsOf cuts numbers into so many steps, and tells whether they are just as many as these take.
func stepsOf(many int, numbers []int) ([]Step, bool) {
	var steps []Step
	for range many {
		if len(numbers) == 0 || numbers[0] >= len(numbers) {
			return nil, false
		}
		end := numbers[0] + 1
		steps = append(steps, Step{From: slices.Clone(numbers[1:end])})
		numbers = numbers[end:]
	}
	return steps, len(numbers) == 0
}
