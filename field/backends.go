package field

import (
	"slices"

	"erratum/api"
	"erratum/lanes"
	"erratum/shift"
	"erratum/table"
)

const (
	// count is how many bytes lanes hold at once.
	count = 64
	// order is how many bytes there are but 0: the power order of each of them is 1.
	order = 255
)

// byTable has its products, inverses and powers from the table.
type byTable struct{ *table.Table }

func (b byTable) each(a byte, l []byte) []byte { return eachBy(b.Mul, a, l) }

func (b byTable) pairs(l, m []byte) []byte { return pairsBy(b.Mul, l, m) }

type byShift struct{}

func (byShift) Mul(a, b byte) byte { return shift.Mul(a, b) }

func (byShift) Inv(a byte) (byte, bool) { return shift.Inv(a) }

func (byShift) Pow(a byte, n int) byte { return shift.Pow(a, n) }

func (byShift) each(a byte, l []byte) []byte { return eachBy(shift.Mul, a, l) }

func (byShift) pairs(l, m []byte) []byte { return pairsBy(shift.Mul, l, m) }

// eachBy multiplies one byte after the other.
func eachBy(mul func(a, b byte) byte, a byte, l []byte) []byte {
	products := make([]byte, len(l))
	for i, b := range l {
		products[i] = mul(a, b)
	}
	return products
}

// pairsBy multiplies one pair after the other.
func pairsBy(mul func(a, b byte) byte, l, m []byte) []byte {
	products := make([]byte, len(l))
	for i, a := range l {
		products[i] = mul(a, m[i])
	}
	return products
}

// byLanes multiplies single bytes in the first lane, and lists in all of them.
type byLanes struct{}

func (byLanes) Mul(a, b byte) byte { return lanes.Lane(lanes.Scale(first(a), b), 0) }

func (byLanes) Inv(a byte) (byte, bool) {
	if a == 0 {
		return 0, false
	}
	return power(a, order-1), true
}

func (byLanes) Pow(a byte, n int) byte {
	if a == 0 && n != 0 {
		return 0
	}
	// Powers come again after order of them, also below 0.
	return power(a, (n%order+order)%order)
}

func (byLanes) each(a byte, l []byte) []byte {
	products := make([]byte, 0, len(l))
	for part := range slices.Chunk(l, count) {
		told := lanes.Unpack(lanes.Scale(lanes.Pack(part), a))
		products = append(products, told[:len(part)]...)
	}
	return products
}

func (byLanes) pairs(l, m []byte) []byte {
	products := make([]byte, 0, len(l))
	for part := range slices.Chunk(l, count) {
		// Pack takes no more than it has lanes for: what is left of m need not be cut.
		other := lanes.Pack(m[len(products):])
		told := lanes.Unpack(lanes.Mul(lanes.Pack(part), other))
		products = append(products, told[:len(part)]...)
	}
	return products
}

// power is the product of n factors a.
func power(a byte, n int) byte {
	p, square := first(1), first(a)
	for ; n > 0; n >>= 1 {
		if n&1 == 1 {
			p = lanes.Mul(p, square)
		}
		square = lanes.Square(square)
	}
	return lanes.Lane(p, 0)
}

// first is a byte in the first lane.
func first(a byte) api.Planes { return lanes.Pack([]byte{a}) }
