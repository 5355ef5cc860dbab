// Package sets tells which sets are right, what follows from them, and which digits a value has by them.
package sets

import "signet/api"

// Check comes ahead of all that is worked out of a set, which may hold any numbers till then.
func Check(c api.Set) api.Errno {
	if right(c) {
		return api.OK
	}
	return api.ErrSet
}

func right(c api.Set) bool {
	return (c.Kind == api.Short || c.Kind == api.Long) &&
		(c.Bytes == 4 || c.Bytes == 8) &&
		(c.Wide == 4 || c.Wide == 16) &&
		1 <= c.Tall && c.Tall <= api.MaxTall &&
		1 <= c.Layers && c.Layers <= api.MaxLayers
}

// Measure tells what follows from a set.
func Measure(c api.Set) (api.Sizes, api.Errno) {
	if e := Check(c); e != api.OK {
		return api.Sizes{}, e
	}
	first := c.Bytes * perByte(c.Wide)
	last := count(first*(c.Wide-1), c.Wide)
	chains := first + last
	return api.Sizes{
		First:  first,
		Last:   last,
		Chains: chains,
		Total:  1 << (c.Tall * c.Layers),
		Sig:    4 + c.Bytes + c.Layers*(chains+c.Tall)*c.Bytes,
		Key:    5 + 2*c.Bytes,
	}, api.OK
}

// perByte goes by the greatest byte: every byte has that many digits, zeros ahead included.
func perByte(base int) int {
	return count(255, base)
}

// count tells how many digits v has to the base; v is above 0.
func count(v int, base int) int {
	n := 0
	for ; v > 0; v /= base {
		n++
	}
	return n
}

// Digits lays what the digits lack behind them: a value whose digits are all as great or greater has a lesser sum there.
func Digits(c api.Set, m string) ([]int, api.Errno) {
	z, e := Measure(c)
	if e != api.OK {
		return nil, e
	}
	if len(m) != c.Bytes {
		return nil, api.ErrArg
	}
	digits := make([]int, z.Chains)
	n := perByte(c.Wide)
	for i := range len(m) {
		lay(digits[i*n:(i+1)*n], int(m[i]), c.Wide)
	}
	lay(digits[z.First:], lack(digits[:z.First], c.Wide), c.Wide)
	return digits, api.OK
}

// lay goes from the end, as the lowest digit comes off first but stands last.
func lay(digits []int, v int, base int) {
	for i := len(digits) - 1; i >= 0; i-- {
		digits[i] = v % base
		v /= base
	}
}

func lack(digits []int, base int) int {
	sum := 0
	for _, d := range digits {
		sum += base - 1 - d
	}
	return sum
}
