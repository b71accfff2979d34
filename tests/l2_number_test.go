package tests

import (
	"bytes"
	"math"
	"math/big"
	"math/rand"
	"testing"

	"loop.example/s01525/impl"
)

// largest is the largest number of n bytes that is an int64.
func largest(n int64) int64 {
	if n >= 8 {
		return math.MaxInt64
	}
	return 1<<(8*n) - 1
}

// plainNumber writes a number as the document says it, by dividing; nil if the document asks for the empty list.
func plainNumber(v, n int64) []byte {
	if n < 1 || n > 8 || v < 0 || v > largest(n) {
		return nil
	}
	return big.NewInt(v).FillBytes(make([]byte, n))
}

func someNumbers() []int64 {
	out := []int64{math.MinInt64, math.MinInt64 + 1, -4294967296, -256, -255, -2, -1, 0, 1, 2, 127, 128, 254, 255, 256, 257, 258, math.MaxInt64 - 1, math.MaxInt64}
	for n := int64(1); n < 8; n++ {
		out = append(out, largest(n)-1, largest(n), largest(n)+1, largest(n)/2, largest(n)/2+1)
	}
	draw := rand.New(rand.NewSource(1))
	for bits := range 63 {
		for range 4 {
			out = append(out, 1<<bits|draw.Int63n(1<<bits))
		}
	}
	return out
}

func TestPutNumber(t *testing.T) {
	widths := []int64{math.MinInt64, -1 << 32, -257, -9, -8, -2, -1, 0, 1, 2, 3, 4, 5, 6, 7, 8, 9, 10, 16, 64, 256, 257, 264, 1 << 32, 1<<32 + 8, math.MaxInt64}
	for _, v := range someNumbers() {
		for _, n := range widths {
			if got, want := impl.PutNumber(v, n), plainNumber(v, n); !bytes.Equal(got, want) {
				t.Errorf("PutNumber(%d, %d) = %v, not %v", v, n, got, want)
			}
		}
	}
}

// Promise 3: there and back, for each width that the number has.
func TestNumberThereAndBack(t *testing.T) {
	told := 0
	for _, v := range someNumbers() {
		for n := int64(1); n <= 8; n++ {
			if v < 0 || v > largest(n) {
				continue
			}
			told++
			b := impl.PutNumber(v, n)
			if int64(len(b)) != n || impl.GetNumber(b) != v {
				t.Errorf("%d in %d bytes: %v, and back %d", v, n, b, impl.GetNumber(b))
			}
		}
	}
	if told < 1000 {
		t.Error("too few numbers were tried:", told)
	}
	for v := range int64(65536) {
		if impl.GetNumber(impl.PutNumber(v, 2)) != v {
			t.Fatal(v)
		}
	}
}

// And back and there: bytes that are a number are the bytes of it.
func TestBytesBackAndThere(t *testing.T) {
	draw := rand.New(rand.NewSource(2))
	for n := 1; n <= 8; n++ {
		for range 500 {
			b := make([]byte, n)
			draw.Read(b)
			if n == 8 {
				b[0] &= 127
			}
			want := new(big.Int).SetBytes(b).Int64()
			got := impl.GetNumber(b)
			if got != want || !bytes.Equal(impl.PutNumber(got, int64(n)), b) {
				t.Fatalf("GetNumber(%v) = %d, not %d", b, got, want)
			}
		}
	}
}

func TestGetNumberEdges(t *testing.T) {
	rest := []byte{1, 2, 3, 4, 5, 6, 7}
	for _, c := range []struct {
		b    []byte
		want int64
	}{
		{nil, -1},
		{[]byte{}, -1},
		{[]byte{0}, 0},
		{[]byte{255}, 255},
		{[]byte{128}, 128},
		{[]byte{0, 0}, 0},
		{[]byte{1, 0}, 256},
		{[]byte{255, 255, 255, 255}, 4294967295},
		{[]byte{255, 255, 255, 255, 255, 255, 255}, 1<<56 - 1},
		{[]byte{128, 0, 0, 0, 0, 0, 0}, 1 << 55},
		{make([]byte, 8), 0},
		{append([]byte{127}, rest...), 127<<56 | 0x01020304050607},
		{append([]byte{128}, rest...), -1},
		{append([]byte{128}, make([]byte, 7)...), -1},
		{append([]byte{255}, rest...), -1},
		{bytes.Repeat([]byte{255}, 8), -1},
		{append([]byte{127}, bytes.Repeat([]byte{255}, 7)...), math.MaxInt64},
		{append([]byte{0}, bytes.Repeat([]byte{255}, 7)...), 1<<56 - 1},
		{make([]byte, 9), -1},
		{append(make([]byte, 8), 1), -1},
		{make([]byte, 16), -1},
		{make([]byte, 257), -1},
		{make([]byte, 5000), -1},
	} {
		if got := impl.GetNumber(c.b); got != c.want {
			t.Errorf("GetNumber(%v) = %d, not %d", c.b, got, c.want)
		}
	}
	for first := range 256 {
		got := impl.GetNumber(append([]byte{byte(first)}, make([]byte, 7)...))
		if first < 128 && got != int64(first)<<56 || first >= 128 && got != -1 {
			t.Errorf("eight bytes, the first is %d: %d", first, got)
		}
	}
}
