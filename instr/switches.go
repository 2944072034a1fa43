package instr

import (
	"obelisk/api"
)

// maxTargets is how many targets a switch has at most, its default's too.
const maxTargets = 1000

// tableSwitch reads a tableswitch: default, low, high, and a target each from
// low to high.
func tableSwitch(code []byte, at int) (api.Instr, bool) {
	b, ok := padded(code, at, 12)
	if !ok {
		return api.Instr{}, false
	}
	low, high := s4(b[4:]), s4(b[8:])
	n := high - low + 1
	if low > high || n >= maxTargets || len(b) < 12+4*n {
		return api.Instr{}, false
	}
	to := make([]int, 1+n)
	to[0] = at + s4(b)
	for i := range n {
		to[1+i] = at + s4(b[12+4*i:])
	}
	length := len(code) - at - len(b) + 12 + 4*n
	return api.Instr{At: at, Len: length, Op: int(code[at]), To: to, Keys: []int64{int64(low), int64(high)}}, true
}

// lookupSwitch reads a lookupswitch: default, how many pairs, and the pairs: a
// key and its target.
func lookupSwitch(code []byte, at int) (api.Instr, bool) {
	b, ok := padded(code, at, 8)
	if !ok {
		return api.Instr{}, false
	}
	n := s4(b[4:])
	if n < 0 || n >= maxTargets || len(b) < 8+8*n {
		return api.Instr{}, false
	}
	to, keys := make([]int, 1+n), make([]int64, n)
	to[0] = at + s4(b)
	for i := range n {
		keys[i] = int64(s4(b[8+8*i:]))
		to[1+i] = at + s4(b[12+8*i:])
		if i > 0 && keys[i] <= keys[i-1] {
			return api.Instr{}, false
		}
	}
	length := len(code) - at - len(b) + 8 + 8*n
	return api.Instr{At: at, Len: length, Op: int(code[at]), To: to, Keys: keys}, true
}

// padded gives what stands behind a switch's padding, if that is noughts and
// at least so many bytes follow. Padding ends at the next place that is a
// multiple of four, counted from the code's beginning.
func padded(code []byte, at, least int) ([]byte, bool) {
	from := at + 4 - at%4
	if len(code)-from < least {
		return nil, false
	}
	for _, b := range code[at+1 : from] {
		if b != 0 {
			return nil, false
		}
	}
	return code[from:], true
}
