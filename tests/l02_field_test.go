package tests

import (
	"math"
	"os"
	"os/exec"
	"strings"
	"sync"
	"testing"

	"loop.example/g00259/impl"
)

// firstCall names, to a process of its own, the call that comes first there.
const firstCall = "FIELD_FIRST_CALL"

// bitProduct is the product of two bytes, bit by bit: that of the polynomials, and then what is left of it.
func bitProduct(a int64, b int64) int64 {
	p := int64(0)
	for bit := range 8 {
		if b>>bit&1 == 1 {
			p ^= a << bit
		}
	}
	for bit := 14; bit >= 8; bit-- {
		if p>>bit&1 == 1 {
			p ^= impl.FieldPoly << (bit - 8)
		}
	}
	return p
}

// bitPower takes half as many factors each time, so that great numbers of them end, too.
func bitPower(a int64, n uint64) int64 {
	if n == 0 {
		return 1
	}
	p := bitPower(bitProduct(a, a), n/2)
	if n%2 == 1 {
		p = bitProduct(p, a)
	}
	return p
}

func bitInverse(a int64) int64 {
	for b := range int64(256) {
		if bitProduct(a, b) == 1 {
			return b
		}
	}
	return 0
}

func bitLog(a int64) int64 {
	p := int64(1)
	for n := range int64(255) {
		if p == a {
			return n
		}
		p = bitProduct(p, 2)
	}
	return -1
}

func noBytes() []int64 {
	return []int64{-1, -2, -255, -256, -257, 256, 257, 258, 285, 511, 512, 1 << 16, 1<<32 + 2, -1<<32 + 2, math.MinInt64, math.MinInt64 + 2, math.MaxInt64}
}

func TestFieldPoly(t *testing.T) {
	same(t, "FieldPoly", int64(impl.FieldPoly), 1<<8+1<<4+1<<3+1<<2+1)
}

func TestFieldProducts(t *testing.T) {
	known := [][3]int64{{2, 128, 29}, {3, 7, 9}, {2, 2, 4}, {16, 16, 29}, {128, 128, 19}, {255, 255, 226}, {1, 255, 255}}
	for _, k := range known {
		same(t, "known", impl.FieldMul(k[0], k[1]), k[2])
	}
	for a := range int64(256) {
		for b := range int64(256) {
			if got := impl.FieldMul(a, b); got != bitProduct(a, b) {
				t.Fatalf("FieldMul(%d, %d): got %d, want %d", a, b, got, bitProduct(a, b))
			}
		}
	}
}

func TestFieldProductsOfTwo(t *testing.T) {
	for a := range int64(256) {
		same(t, "by 0", impl.FieldMul(a, 0), 0)
		same(t, "of 0", impl.FieldMul(0, a), 0)
		same(t, "by 1", impl.FieldMul(a, 1), a)
		same(t, "of 1", impl.FieldMul(1, a), a)
		for b := range int64(256) {
			if impl.FieldMul(a, b) != impl.FieldMul(b, a) {
				t.Fatalf("%d and %d ask for the order", a, b)
			}
			if a != 0 && b != 0 && impl.FieldMul(a, b) == 0 {
				t.Fatalf("%d times %d is 0", a, b)
			}
		}
	}
}

func TestFieldProductsOfThree(t *testing.T) {
	for a := range int64(256) {
		for b := range int64(256) {
			ab := impl.FieldMul(a, b)
			for c := range int64(256) {
				if impl.FieldMul(ab, c) != impl.FieldMul(a, impl.FieldMul(b, c)) {
					t.Fatalf("%d, %d and %d ask for the order", a, b, c)
				}
			}
		}
	}
}

func TestFieldProductsGoOverSums(t *testing.T) {
	for a := range int64(256) {
		for b := range int64(256) {
			ab := impl.FieldMul(a, b)
			for c := range int64(256) {
				if impl.FieldMul(a, b^c) != ab^impl.FieldMul(a, c) {
					t.Fatalf("%d times the sum of %d and %d", a, b, c)
				}
				if impl.FieldMul(b^c, a) != ab^impl.FieldMul(c, a) {
					t.Fatalf("the sum of %d and %d times %d", b, c, a)
				}
			}
		}
	}
}

func TestFieldProductsAreTakenBack(t *testing.T) {
	for a := range int64(256) {
		for b := int64(1); b < 256; b++ {
			same(t, "product taken back", impl.FieldDiv(impl.FieldMul(a, b), b), a)
			same(t, "quotient taken back", impl.FieldMul(impl.FieldDiv(a, b), b), a)
			same(t, "quotient", impl.FieldDiv(a, b), bitProduct(a, bitInverse(b)))
		}
		same(t, "by 0", impl.FieldDiv(a, 0), 0)
		same(t, "by 1", impl.FieldDiv(a, 1), a)
	}
}

func TestFieldInverses(t *testing.T) {
	same(t, "of 0", impl.FieldInv(0), 0)
	same(t, "of 1", impl.FieldInv(1), 1)
	same(t, "of 2", impl.FieldInv(2), 142)
	for a := int64(1); a < 256; a++ {
		same(t, "inverse", impl.FieldInv(a), bitInverse(a))
		same(t, "product", impl.FieldMul(a, impl.FieldInv(a)), 1)
		same(t, "there and back", impl.FieldInv(impl.FieldInv(a)), a)
	}
}

func TestFieldBytesArePowers(t *testing.T) {
	met := map[int64]bool{}
	for a := int64(1); a < 256; a++ {
		n := impl.FieldLog(a)
		same(t, "logarithm", n, bitLog(a))
		same(t, "range", n >= 0 && n <= 254, true)
		same(t, "power", impl.FieldExp(n), a)
		same(t, "power of 2", impl.FieldPow(2, n), a)
		met[n] = true
	}
	same(t, "logarithms", len(met), 255)
	same(t, "of 0", impl.FieldLog(0), -1)
	same(t, "of 1", impl.FieldLog(1), 0)
	same(t, "of 2", impl.FieldLog(2), 1)
	same(t, "of 29", impl.FieldLog(29), 8)
}

func TestFieldExp(t *testing.T) {
	same(t, "of 0", impl.FieldExp(0), 1)
	same(t, "of 8", impl.FieldExp(8), 29)
	same(t, "of 254", impl.FieldExp(254), 142)
	same(t, "of 255", impl.FieldExp(255), 1)
	same(t, "of 256", impl.FieldExp(256), 2)
	// 2^63 is 2^7 modulo 255, as 2^8 is 1.
	same(t, "of the greatest", impl.FieldExp(math.MaxInt64), bitPower(2, 127))
	for n := range int64(2000) {
		same(t, "small", impl.FieldExp(n), bitPower(2, uint64(n)))
	}
	for _, n := range append(edgeNumbers(), someNumbers(4, 1000)...) {
		want := int64(0)
		if n >= 0 {
			want = bitPower(2, uint64(n))
		}
		same(t, "great, or below 0", impl.FieldExp(n), want)
	}
}

func TestFieldPow(t *testing.T) {
	for a := range int64(256) {
		p := int64(1)
		for n := range int64(520) {
			same(t, "small", impl.FieldPow(a, n), p)
			p = bitProduct(p, a)
		}
		for _, n := range []int64{1 << 16, 1<<16 + 1, 1<<31 - 256, 1<<31 - 255, 1<<31 - 2, 1<<31 - 1, 1 << 31} {
			same(t, "great", impl.FieldPow(a, n), bitPower(a, uint64(n)))
		}
		for _, n := range []int64{-1, -2, -254, -255, -256, 1<<31 + 1, 1<<31 + 255, 1 << 32, 1<<32 + 1, 255 << 32, math.MinInt64, math.MaxInt64} {
			same(t, "no such number", impl.FieldPow(a, n), 0)
		}
	}
}

func TestFieldPowEdges(t *testing.T) {
	for _, c := range [][3]int64{
		{0, 0, 1}, {0, 1, 0}, {0, 254, 0}, {0, 255, 0}, {0, 256, 0}, {0, 1 << 31, 0},
		{1, 0, 1}, {1, 1, 1}, {1, 254, 1}, {1, 255, 1}, {1, 256, 1}, {1, 1 << 31, 1},
		{2, 0, 1}, {2, 1, 2}, {2, 254, 142}, {2, 255, 1}, {2, 256, 2}, {2, 1 << 31, bitPower(2, 128)},
		{255, 0, 1}, {255, 1, 255}, {255, 254, bitInverse(255)}, {255, 255, 1}, {255, 256, 255}, {255, 1 << 31, bitPower(255, 128)},
	} {
		same(t, "power", impl.FieldPow(c[0], c[1]), c[2])
	}
	for _, a := range []int64{0, 1, 2, 255} {
		same(t, "one above", impl.FieldPow(a, 1<<31+1), 0)
		same(t, "below 0", impl.FieldPow(a, -1), 0)
	}
}

func TestFieldOfNoBytes(t *testing.T) {
	for _, x := range noBytes() {
		same(t, "FieldInv", impl.FieldInv(x), 0)
		same(t, "FieldLog", impl.FieldLog(x), -1)
		for b := range int64(256) {
			same(t, "FieldMul, left", impl.FieldMul(x, b), 0)
			same(t, "FieldMul, right", impl.FieldMul(b, x), 0)
			same(t, "FieldDiv, left", impl.FieldDiv(x, b), 0)
			same(t, "FieldDiv, right", impl.FieldDiv(b, x), 0)
		}
		for _, y := range noBytes() {
			same(t, "FieldMul, both", impl.FieldMul(x, y), 0)
			same(t, "FieldDiv, both", impl.FieldDiv(x, y), 0)
			same(t, "FieldPow, both", impl.FieldPow(x, y), 0)
		}
		for _, n := range []int64{-1, 1, 2, 254, 255, 256, 1 << 31, 1<<31 + 1, math.MinInt64, math.MaxInt64} {
			same(t, "FieldPow", impl.FieldPow(x, n), 0)
		}
	}
}

// The chapter says 1, if n is 0, ahead of what it says of what is no byte.
func TestFieldPowOfNone(t *testing.T) {
	for _, x := range noBytes() {
		same(t, "none of it", impl.FieldPow(x, 0), 1)
	}
}

type fieldCall struct {
	name string
	call func() int64
	want int64
}

func fieldCalls() []fieldCall {
	return []fieldCall{
		{"FieldMul", func() int64 { return impl.FieldMul(200, 100) }, bitProduct(200, 100)},
		{"FieldInv", func() int64 { return impl.FieldInv(200) }, bitInverse(200)},
		{"FieldDiv", func() int64 { return impl.FieldDiv(200, 100) }, bitProduct(200, bitInverse(100))},
		{"FieldPow", func() int64 { return impl.FieldPow(200, 100) }, bitPower(200, 100)},
		{"FieldExp", func() int64 { return impl.FieldExp(200) }, bitPower(2, 200)},
		{"FieldLog", func() int64 { return impl.FieldLog(200) }, bitLog(200)},
	}
}

// What comes first in a process is kept from call to call, so each call that may come first gets a new one.
func TestFieldFirstCalls(t *testing.T) {
	self, err := os.Executable()
	if err != nil {
		t.Fatal(err)
	}
	for _, c := range fieldCalls() {
		for _, how := range []string{"TestFieldOneFirst", "TestFieldManyFirst"} {
			child := exec.Command(self, "-test.run=^"+how+"$", "-test.v")
			child.Env = append(os.Environ(), firstCall+"="+c.name)
			out, err := child.CombinedOutput()
			if err != nil || !strings.Contains(string(out), "--- PASS: "+how) {
				t.Errorf("%s first, %s: %v\n%s", c.name, how, err, out)
			}
		}
	}
}

func firstOf() fieldCall {
	for _, c := range fieldCalls() {
		if c.name == os.Getenv(firstCall) {
			return c
		}
	}
	return fieldCalls()[0]
}

func TestFieldOneFirst(t *testing.T) {
	first := firstOf()
	same(t, first.name+" first", first.call(), first.want)
	same(t, first.name+" again", first.call(), first.want)
	for _, c := range fieldCalls() {
		same(t, c.name+" later", c.call(), c.want)
	}
}

func TestFieldManyFirst(t *testing.T) {
	first := firstOf()
	const workers = 32
	var got [workers][2]int64
	var all sync.WaitGroup
	begin := make(chan struct{})
	for i := range workers {
		all.Go(func() {
			<-begin
			got[i] = [2]int64{first.call(), impl.FieldMul(int64(i), 77)}
		})
	}
	close(begin)
	all.Wait()
	for i := range got {
		same(t, first.name+" among many", got[i], [2]int64{first.want, bitProduct(int64(i), 77)})
	}
}
