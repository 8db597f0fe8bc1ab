package table_test

import (
	"go/ast"
	"go/parser"
	"go/token"
	"math"
	"sync"
	"testing"

	"erratum/plain"
	"erratum/shift"
	"erratum/table"
)

// calls are all calls but Made, each with an ordinary argument and with those that need no table to be answered.
func calls() map[string]func(*table.Table) {
	return map[string]func(*table.Table){
		"Exp(8)":      func(t *table.Table) { t.Exp(8) },
		"Exp(0)":      func(t *table.Table) { t.Exp(0) },
		"Log(1D)":     func(t *table.Table) { t.Log(0x1D) },
		"Log(00)":     func(t *table.Table) { t.Log(0) },
		"Mul(80, 02)": func(t *table.Table) { t.Mul(0x80, 2) },
		"Mul(00, 02)": func(t *table.Table) { t.Mul(0, 2) },
		"Mul(02, 00)": func(t *table.Table) { t.Mul(2, 0) },
		"Mul(00, 00)": func(t *table.Table) { t.Mul(0, 0) },
		"Inv(02)":     func(t *table.Table) { t.Inv(2) },
		"Inv(00)":     func(t *table.Table) { t.Inv(0) },
		"Pow(03, 5)":  func(t *table.Table) { t.Pow(3, 5) },
		"Pow(03, 0)":  func(t *table.Table) { t.Pow(3, 0) },
		"Pow(00, 0)":  func(t *table.Table) { t.Pow(0, 0) },
		"Pow(00, 5)":  func(t *table.Table) { t.Pow(0, 5) },
	}
}

// far are powers at the edges: round the 255 that there are, and as far off as an int is.
func far() []int {
	return []int{0, 1, 2, 254, 255, 256, 509, 510, 511, 765, -1, -2, -254, -255, -256, -510, -511,
		1 << 15, -1 << 15, 1<<31 - 1, 1 << 31, -1 << 31, -1<<31 - 1, 1 << 32, -1 << 32, 255 << 40, -255 << 40, 255<<40 + 1, 1<<62 + 3,
		math.MaxInt, math.MaxInt - 1, math.MaxInt / 254, math.MaxInt/254 + 1, math.MinInt, math.MinInt + 1, math.MinInt / 254, math.MinInt/254 - 1}
}

func TestExample(t *testing.T) {
	b := table.New()
	if got := b.Exp(8); got != 0x1D {
		t.Errorf("Exp(8) = %02X, not 1D", got)
	}
	if got, ok := b.Log(0x1D); got != 8 || !ok {
		t.Errorf("Log(1D) = %d, %v, not 8, true", got, ok)
	}
}

func TestNewIsNotMade(t *testing.T) {
	b := table.New()
	if b == nil {
		t.Fatal("New told nil")
	}
	for range 3 {
		if got := b.Made(); got != 0 {
			t.Errorf("Made of a new one = %d, not 0", got)
		}
	}
}

// TestMadeByEach: whichever of the other calls comes first makes the table, and no later one makes it again.
func TestMadeByEach(t *testing.T) {
	for name, first := range calls() {
		b := table.New()
		first(b)
		if got := b.Made(); got != 1 {
			t.Errorf("Made behind %s = %d, not 1", name, got)
		}
		first(b)
		for _, next := range calls() {
			next(b)
		}
		if got := b.Made(); got != 1 {
			t.Errorf("Made behind %s and all others = %d, not 1", name, got)
		}
	}
}

// TestMadeByMany: whoever asks at a time, it is made once, and whoever sees it made is told what a made one tells.
func TestMadeByMany(t *testing.T) {
	for range 50 {
		b := table.New()
		start := make(chan bool)
		var all sync.WaitGroup
		for i := range 16 {
			all.Go(func() {
				<-start
				if made := b.Made(); made != 0 && made != 1 {
					t.Errorf("Made among many = %d", made)
				}
				a := byte(i*15 + 1)
				if inverse, ok := b.Inv(a); !ok || plain.Mul(a, inverse) != 1 || b.Mul(a, 0x53) != plain.Mul(a, 0x53) {
					t.Errorf("another answer for %02X among many", a)
				}
				if made := b.Made(); made != 1 {
					t.Errorf("Made behind a call among many = %d, not 1", made)
				}
			})
		}
		close(start)
		all.Wait()
		if got := b.Made(); got != 1 {
			t.Fatalf("Made behind many = %d, not 1", got)
		}
	}
}

// TestTwoAreApart: what one was asked, the other does not know.
func TestTwoAreApart(t *testing.T) {
	a, b := table.New(), table.New()
	if a == b {
		t.Fatal("New told one table twice")
	}
	a.Exp(3)
	if a.Made() != 1 || b.Made() != 0 {
		t.Errorf("the first is asked: Made are %d, %d, not 1, 0", a.Made(), b.Made())
	}
	b.Log(0)
	if a.Made() != 1 || b.Made() != 1 {
		t.Errorf("both are asked: Made are %d, %d, not 1, 1", a.Made(), b.Made())
	}
	if c := table.New(); c.Made() != 0 {
		t.Errorf("a third is new: Made is %d, not 0", c.Made())
	}
}

func TestExp(t *testing.T) {
	b := table.New()
	p := byte(1)
	for n := range 600 {
		if got := b.Exp(n); got != p {
			t.Fatalf("Exp(%d) = %02X, not %02X", n, got, p)
		}
		if down := b.Exp(-n); plain.Mul(down, p) != 1 {
			t.Fatalf("Exp(%d) = %02X: times Exp(%d) that is not 1", -n, down, n)
		}
		p = plain.Double(p)
	}
	if got := b.Exp(-1); got != 0x8E {
		t.Errorf("Exp(-1) = %02X, not 8E", got)
	}
}

func TestExpFar(t *testing.T) {
	b := table.New()
	for _, n := range far() {
		if got, want := b.Exp(n), shift.Pow(2, n); got != want {
			t.Errorf("Exp(%d) = %02X, not %02X", n, got, want)
		}
	}
}

func TestLog(t *testing.T) {
	b := table.New()
	if got, ok := b.Log(0); got != 0 || ok {
		t.Errorf("Log(00) = %d, %v, not 0, false", got, ok)
	}
	p := byte(1)
	for n := range 255 {
		if got, ok := b.Log(p); got != n || !ok {
			t.Errorf("Log(%02X) = %d, %v, not %d, true", p, got, ok, n)
		}
		p = plain.Double(p)
	}
	if p != 1 {
		t.Fatal("the 255 powers of 2 do not come again")
	}
}

func TestMul(t *testing.T) {
	b := table.New()
	if got := b.Mul(0x80, 0x02); got != 0x1D {
		t.Errorf("Mul(80, 02) = %02X, not 1D", got)
	}
	plain.AllPairs(func(x, y byte) {
		got := b.Mul(x, y)
		if got != plain.Mul(x, y) || got != shift.Mul(x, y) {
			t.Fatalf("Mul(%02X, %02X) = %02X, not %02X", x, y, got, plain.Mul(x, y))
		}
	})
}

func TestInv(t *testing.T) {
	b := table.New()
	for a := range 256 {
		got, ok := b.Inv(byte(a))
		want, is := shift.Inv(byte(a))
		if got != want || ok != is {
			t.Errorf("Inv(%02X) = %02X, %v, not %02X, %v", a, got, ok, want, is)
		}
		if ok != (a != 0) || ok && plain.Mul(byte(a), got) != 1 || !ok && got != 0 {
			t.Errorf("Inv(%02X) = %02X, %v: no inverse", a, got, ok)
		}
	}
}

func TestPow(t *testing.T) {
	b := table.New()
	for a := range 256 {
		up := byte(1)
		for n := range 600 {
			if got := b.Pow(byte(a), n); got != up {
				t.Fatalf("Pow(%02X, %d) = %02X, not %02X", a, n, got, up)
			}
			up = plain.Mul(up, byte(a))
			if got, want := b.Pow(byte(a), -n), shift.Pow(byte(a), -n); got != want {
				t.Fatalf("Pow(%02X, %d) = %02X, not %02X", a, -n, got, want)
			}
		}
	}
}

func TestPowFar(t *testing.T) {
	b := table.New()
	for a := range 256 {
		for _, n := range far() {
			if got, want := b.Pow(byte(a), n), shift.Pow(byte(a), n); got != want {
				t.Fatalf("Pow(%02X, %d) = %02X, not %02X", a, n, got, want)
			}
		}
	}
}

func TestPowOfNought(t *testing.T) {
	b := table.New()
	for _, n := range far() {
		want := byte(0)
		if n == 0 {
			want = 1
		}
		if got := b.Pow(0, n); got != want {
			t.Errorf("Pow(00, %d) = %02X, not %02X", n, got, want)
		}
	}
}

// TestSums: the logarithm of a product is the sum of the logarithms, brought down by 255.
func TestSums(t *testing.T) {
	b := table.New()
	plain.AllPairs(func(x, y byte) {
		l, isX := b.Log(x)
		m, isY := b.Log(y)
		got, is := b.Log(b.Mul(x, y))
		if is != (isX && isY) || is && got != (l+m)%255 {
			t.Fatalf("Log of %02X times %02X = %d, %v; theirs are %d and %d", x, y, got, is, l, m)
		}
		if isX && isY && b.Mul(x, y) != b.Exp(l+m) {
			t.Fatalf("%02X times %02X is not Exp(%d)", x, y, l+m)
		}
	})
}

// TestShiftMakesAlone: what is made comes from shift; what is asked behind that comes from the table, so no call of the table but the one that makes it speaks of shift.
func TestShiftMakesAlone(t *testing.T) {
	file, err := parser.ParseFile(token.NewFileSet(), "table.go", nil, 0)
	if err != nil {
		t.Fatal(err)
	}
	var speak []string
	for _, d := range file.Decls {
		f, ok := d.(*ast.FuncDecl)
		if !ok {
			continue
		}
		found := false
		ast.Inspect(f, func(n ast.Node) bool {
			name, ok := n.(*ast.Ident)
			found = found || ok && name.Name == "shift"
			return true
		})
		if found {
			speak = append(speak, f.Name.Name)
		}
	}
	if len(speak) != 1 || ast.IsExported(speak[0]) {
		t.Errorf("these speak of shift: %v, not the one that makes the table", speak)
	}
}

func TestNil(t *testing.T) {
	var none *table.Table
	for _, n := range far() {
		if got := none.Exp(n); got != 0 {
			t.Errorf("Exp(%d) of nil = %02X, not 0", n, got)
		}
	}
	for a := range 256 {
		if got, ok := none.Log(byte(a)); got != 0 || ok {
			t.Errorf("Log(%02X) of nil = %d, %v, not 0, false", a, got, ok)
		}
		if got, ok := none.Inv(byte(a)); got != 0 || ok {
			t.Errorf("Inv(%02X) of nil = %02X, %v, not 0, false", a, got, ok)
		}
		for _, n := range far() {
			if got := none.Pow(byte(a), n); got != 0 {
				t.Errorf("Pow(%02X, %d) of nil = %02X, not 0", a, n, got)
			}
		}
	}
	plain.AllPairs(func(x, y byte) {
		if got := none.Mul(x, y); got != 0 {
			t.Errorf("Mul(%02X, %02X) of nil = %02X, not 0", x, y, got)
		}
	})
	if got := none.Made(); got != 0 {
		t.Errorf("Made of nil, behind all the others = %d, not 0", got)
	}
}
