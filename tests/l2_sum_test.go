package tests

import (
	"math"
	"math/bits"
	"math/rand"
	"slices"
	"testing"

	"loop.example/s01525/impl"
)

// plainCrcOn works the sum out bit by bit, as the document says it.
func plainCrcOn(crc int64, data []byte) int64 {
	register := uint32(crc) ^ 0xFFFFFFFF
	for _, x := range data {
		register ^= uint32(x)
		for range 8 {
			if register&1 == 1 {
				register = register>>1 ^ 0x82F63B78
			} else {
				register >>= 1
			}
		}
	}
	return int64(register ^ 0xFFFFFFFF)
}

// drawn are n bytes, the same ones for the same n and seed.
func drawn(n int, seed int64) []byte {
	b := make([]byte, n)
	rand.New(rand.NewSource(seed)).Read(b)
	return b
}

func sameBytes(n int, b byte) []byte {
	return slices.Repeat([]byte{b}, n)
}

func TestCrcOfTheDocument(t *testing.T) {
	if got := impl.Crc(nil); got != 0 {
		t.Error("no data:", got)
	}
	if got := impl.Crc([]byte{}); got != 0 {
		t.Error("an empty list:", got)
	}
	if got := impl.Crc([]byte("123456789")); got != 3808858755 {
		t.Error("123456789:", got)
	}
}

func TestCrcBitByBit(t *testing.T) {
	lengths := []int{255, 256, 257, 511, 512, 513, 1000, 1023, 1024, 1025, 4095, 4096, 4097, 5000, 9999}
	for n := range 140 {
		lengths = append(lengths, n)
	}
	for _, n := range lengths {
		for i, data := range [][]byte{drawn(n, 1), drawn(n, int64(n)), sameBytes(n, 0), sameBytes(n, 255), sameBytes(n, 170)} {
			if got, want := impl.Crc(data), plainCrcOn(0, data); got != want {
				t.Errorf("%d bytes, kind %d: %d, not %d", n, i, got, want)
			}
		}
	}
}

// Every entry of the table is asked for, from every start that one byte can give.
func TestCrcOfOneAndTwoBytes(t *testing.T) {
	for a := range 256 {
		if got, want := impl.Crc([]byte{byte(a)}), plainCrcOn(0, []byte{byte(a)}); got != want {
			t.Fatalf("the byte %d: %d, not %d", a, got, want)
		}
		for b := range 256 {
			two := []byte{byte(a), byte(b)}
			if got, want := impl.Crc(two), plainCrcOn(0, two); got != want {
				t.Fatalf("the bytes %d: %d, not %d", two, got, want)
			}
		}
	}
}

// Promise 3: in pieces it is the sum of the whole, wherever it is cut.
func TestCrcOnInPieces(t *testing.T) {
	for _, n := range []int{0, 1, 2, 9, 63, 64, 65, 130, 1000} {
		data := drawn(n, 7)
		want := impl.Crc(data)
		for cut := range n + 1 {
			if got := impl.CrcOn(impl.Crc(data[:cut]), data[cut:]); got != want {
				t.Fatalf("%d bytes, cut behind %d: %d, not %d", n, cut, got, want)
			}
		}
	}
	data := drawn(40, 8)
	want := plainCrcOn(0, data)
	for i := range 41 {
		for j := i; j <= 40; j++ {
			if impl.CrcOn(impl.CrcOn(impl.Crc(data[:i]), data[i:j]), data[j:]) != want {
				t.Fatalf("in three pieces, cut behind %d and %d", i, j)
			}
		}
	}
	one := int64(0)
	for _, x := range data {
		one = impl.CrcOn(one, []byte{x})
	}
	if one != want {
		t.Error("byte by byte:", one)
	}
}

// What data had the sum does not matter: each number of 32 bits may stand for some.
func TestCrcOnOfAnySum(t *testing.T) {
	sums := []int64{0, 1, 2, 255, 256, 1<<31 - 1, 1 << 31, 4294967294, 4294967295, 3808858755}
	for i := range 32 {
		sums = append(sums, 1<<i)
	}
	draw := rand.New(rand.NewSource(3))
	for range 200 {
		sums = append(sums, draw.Int63n(1<<32))
	}
	for _, crc := range sums {
		if got := impl.CrcOn(crc, nil); got != crc {
			t.Errorf("%d with nothing behind it: %d", crc, got)
		}
		for _, n := range []int{0, 1, 2, 8, 64, 300} {
			data := drawn(n, crc)
			if got, want := impl.CrcOn(crc, data), plainCrcOn(crc, data); got != want {
				t.Errorf("%d with %d bytes behind it: %d, not %d", crc, n, got, want)
			}
		}
	}
}

func TestCrcOnOfNoSum(t *testing.T) {
	for _, crc := range []int64{math.MinInt64, math.MinInt64 + 1, -1 << 32, -4294967295, -2, -1, 1 << 32, 1<<32 + 1, 1 << 33, 1<<40 + 5, math.MaxInt64 - 1, math.MaxInt64} {
		for _, data := range [][]byte{nil, {}, {0}, {255}, []byte("123456789"), drawn(300, 4)} {
			if got := impl.CrcOn(crc, data); got != -1 {
				t.Errorf("CrcOn(%d, %d bytes) = %d", crc, len(data), got)
			}
		}
	}
}

func TestCrcRange(t *testing.T) {
	high := false
	for seed := range int64(300) {
		got := impl.Crc(drawn(int(seed), seed))
		if got < 0 || got > 4294967295 {
			t.Fatal("a sum that is none:", got)
		}
		high = high || got >= 1<<31
	}
	if !high {
		t.Error("no sum has its highest bit")
	}
}

// turned is the data with the pattern's bits changed, its lowest bit at this place: bits are counted
// from the lowest of each byte on. What would lie behind the end is left away.
func turned(data []byte, place int, pattern uint32) []byte {
	out := slices.Clone(data)
	for i := range 32 {
		if at := place + i; pattern>>i&1 == 1 && at < 8*len(data) {
			out[at/8] ^= 1 << (at % 8)
		}
	}
	return out
}

// Promise 3: changed bits within 32 in a row give another sum. Here they are drawn, at every place.
func TestCrcTellsDrawnChanges(t *testing.T) {
	t.Parallel()
	draw := rand.New(rand.NewSource(5))
	for _, n := range []int{1, 2, 3, 4, 5, 8, 64, 200} {
		data := drawn(n, 9)
		sum := impl.Crc(data)
		for place := range 8 * n {
			patterns := []uint32{1, 3, 0x80000001, 0xFFFFFFFF, 0x82F63B79, 0x1EDC6F41, 0x05EC76F1}
			for range 40 {
				patterns = append(patterns, draw.Uint32()|1)
			}
			for _, p := range patterns {
				if impl.Crc(turned(data, place, p)) == sum {
					t.Fatalf("%d bytes, the pattern %x at bit %d is not told", n, p, place)
				}
			}
		}
	}
}

// Here all patterns of at most eleven bits in a row are counted, at every place.
func TestCrcTellsShortChanges(t *testing.T) {
	data := drawn(12, 10)
	sum := impl.Crc(data)
	for place := range 8 * len(data) {
		for p := uint32(1); p < 1<<11; p += 2 {
			if impl.Crc(turned(data, place, p)) == sum {
				t.Fatalf("the pattern %x at bit %d is not told", p, place)
			}
		}
	}
}

// Here all patterns are counted at once: what a change makes of the sum is the xor of what its bits make
// of it one by one, so no pattern is lost if no xor of the 32 single ones is 0.
func TestCrcTellsEveryChange(t *testing.T) {
	for _, n := range []int{4, 5, 64, 70} {
		data := drawn(n, 11)
		sum := impl.Crc(data)
		alone := make([]uint32, 8*n)
		for place := range alone {
			alone[place] = uint32(impl.Crc(turned(data, place, 1)) ^ sum)
		}
		draw := rand.New(rand.NewSource(12))
		for place := range alone {
			row := alone[place:min(place+32, len(alone))]
			if independent(row) != len(row) {
				t.Fatalf("%d bytes: some change within the 32 bits from bit %d on is not told", n, place)
			}
			for range 20 {
				p := draw.Uint32()
				if got := uint32(impl.Crc(turned(data, place, p)) ^ sum); got != xorOf(row, p) {
					t.Fatalf("%d bytes: the pattern %x at bit %d is not the xor of its bits", n, p, place)
				}
			}
		}
	}
}

func xorOf(row []uint32, pattern uint32) uint32 {
	var out uint32
	for i, x := range row {
		if pattern>>i&1 == 1 {
			out ^= x
		}
	}
	return out
}

// independent is how many of these are no xor of some of the others ahead of them.
func independent(row []uint32) int {
	var leads [33]uint32
	count := 0
	for _, x := range row {
		for x != 0 && leads[bits.Len32(x)] != 0 {
			x ^= leads[bits.Len32(x)]
		}
		if x != 0 {
			leads[bits.Len32(x)] = x
			count++
		}
	}
	return count
}
