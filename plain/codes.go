package plain

import (
	"bytes"
	"math"
	"slices"

	"erratum/api"
)

// order is how many powers 2 has.
const order = 255

// Codes are right ones of many kinds: the smallest and the greatest, K 1 and K one below N, the first and the last B, and such as have powers that come round.
func Codes() []api.Code {
	return []api.Code{{N: 2, K: 1, B: 0}, {N: 2, K: 1, B: 1}, {N: 2, K: 1, B: 254}, {N: 3, K: 1, B: 0}, {N: 3, K: 2, B: 253}, {N: 3, K: 1, B: 254},
		{N: 4, K: 2, B: 0}, {N: 4, K: 2, B: 254}, {N: 5, K: 1, B: 254}, {N: 7, K: 3, B: 252}, {N: 20, K: 9, B: 250}, {N: 20, K: 19, B: 100},
		{N: 64, K: 32, B: 1}, {N: 65, K: 1, B: 200}, {N: 65, K: 64, B: 254}, {N: 129, K: 100, B: 240}, {N: 254, K: 250, B: 251}, {N: 255, K: 223, B: 112},
		{N: 255, K: 239, B: 0}, {N: 255, K: 128, B: 128}, {N: 255, K: 254, B: 0}, {N: 255, K: 254, B: 254},
		{N: 255, K: 1, B: 0}, {N: 255, K: 1, B: 1}, {N: 255, K: 1, B: 254}}
}

// SmallCodes are all right ones whose words are no longer than long.
func SmallCodes(long int) []api.Code {
	var l []api.Code
	for n := 2; n <= long; n++ {
		for k := 1; k < n; k++ {
			for b := range order {
				l = append(l, api.Code{N: n, K: k, B: b})
			}
		}
	}
	return l
}

// CrookedCodes are codes that are not right: each number too small or too great, alone and with others, and at the ends of an int, where N less K comes round.
func CrookedCodes() []api.Code {
	l := []api.Code{{}, {N: 4, K: 0, B: 0}, {N: 4, K: -1, B: 0}, {N: 255, K: 0, B: 254}, {N: 0, K: -1, B: 0}, {N: 1, K: 0, B: 0}, {N: -1, K: -2, B: 0},
		{N: 1, K: 1, B: 0}, {N: 4, K: 4, B: 0}, {N: 255, K: 255, B: 0}, {N: 3, K: 4, B: 0}, {N: 1, K: 2, B: 0}, {N: 0, K: 1, B: 0}, {N: -1, K: 1, B: 0}, {N: 254, K: 255, B: 0},
		{N: 256, K: 1, B: 0}, {N: 256, K: 2, B: 0}, {N: 256, K: 255, B: 0}, {N: 256, K: 256, B: 0}, {N: 257, K: 255, B: 254}, {N: 260, K: 258, B: 0}, {N: 300, K: 100, B: 1}, {N: 512, K: 2, B: 0},
		{N: 4, K: 2, B: -1}, {N: 4, K: 2, B: -255}, {N: 4, K: 2, B: -256}, {N: 4, K: 2, B: 255}, {N: 4, K: 2, B: 256}, {N: 4, K: 2, B: 510}, {N: 255, K: 1, B: 255}, {N: 2, K: 1, B: -1},
		{N: 0, K: 0, B: -1}, {N: 300, K: 300, B: 300}}
	for _, end := range []int{math.MinInt, math.MinInt + 1, math.MaxInt - 1, math.MaxInt} {
		l = append(l, api.Code{N: end, K: 2, B: 0}, api.Code{N: 4, K: end, B: 0}, api.Code{N: 4, K: 2, B: end}, api.Code{N: end, K: end, B: end},
			api.Code{N: end, K: -end, B: 0}, api.Code{N: end, K: end - 2, B: 0}, api.Code{N: -end, K: end, B: 0}, api.Code{N: end + 4, K: end + 2, B: 0})
	}
	return l
}

// AnyLengths are lists as long as a code says, which need not be right, where a list may be so long, and otherwise.
func AnyLengths(c api.Code) [][]byte {
	l := OtherLengths(4, 2, 3, 4)
	for _, n := range []int{c.N, c.K, c.N - c.K} {
		if n >= 0 && n <= 1000 {
			l = append(l, make([]byte, n), Mixed(n, n))
		}
	}
	return l
}

// Power is that of 2, from the power 0 on: as many doublings as n.
func Power(n int) byte {
	p := byte(1)
	for range n {
		p = Double(p)
	}
	return p
}

// Roots are the bytes at which the words of a right code are 0.
func Roots(c api.Code) []byte {
	var l []byte
	for j := c.K; j < c.N; j++ {
		l = append(l, Power(c.B+len(l)))
	}
	return l
}

// Multiple is a list as long as a right code's words: a polynomial of no more than K coefficients times what has the code's roots.
func Multiple(c api.Code, p []byte) []byte {
	w := Product(FromZeros(Roots(c)...), p)
	return Behind(w, c.N-len(w))
}

// Words are some of a right code: the least multiple of all, what lies furthest right, and others.
func Words(c api.Code) [][]byte {
	var l [][]byte
	for _, p := range [][]byte{{1}, Alone(1, c.K-1), {0xA7}, Mixed(1, c.K), Mixed(4, c.K)} {
		l = append(l, Multiple(c, p))
	}
	return l
}

// Has says whether a list as long as a right code's words is one of them.
func Has(c api.Code, w []byte) bool {
	return !slices.ContainsFunc(Roots(c), func(root byte) bool { return Value(w, root) != 0 })
}

// Word is that of a right code which ends in a message: noughts are laid ahead of the message, and multiples of what has the code's roots, each taken off from the last byte on, leave what the word begins with.
func Word(c api.Code, m []byte) []byte {
	least := FromZeros(Roots(c)...)
	begins := c.N - c.K
	left := append(make([]byte, begins), m...)
	for at := c.K - 1; at >= 0; at-- {
		times := left[begins+at]
		for i, b := range least {
			left[at+i] ^= Mul(times, b)
		}
	}
	return append(left[:begins:begins], m...)
}

// Messages are some of a right code, each another one: all 0, all 255, with the first or the last byte 0, or alone not 0, and mixed ones.
func Messages(c api.Code) [][]byte {
	l := [][]byte{make([]byte, c.K), slices.Repeat([]byte{0xFF}, c.K)}
	for seed := range 4 {
		m := Mixed(3+seed, c.K)
		m[0] |= 0x10
		m[c.K-1] |= byte(seed) + 1
		l = append(l, m)
	}
	for _, at := range []int{0, c.K - 1} {
		m := Mixed(9+at, c.K)
		m[at] = 0
		l = append(l, m, Behind(Alone(1, at), c.K-1-at), Behind(Alone(0xA7, at), c.K-1-at))
	}
	slices.SortFunc(l, bytes.Compare)
	return slices.CompactFunc(l, bytes.Equal)
}
