package tests

import (
	"bytes"
	"math"
	"math/rand"
	"slices"
	"testing"

	"loop.example/s01525/impl"
)

// plainBits are the bits one by one, the lowest of each byte first; none of more than 2048 bytes.
func plainBits(b []byte) []bool {
	if len(b) > 2048 {
		return nil
	}
	var on []bool
	for _, x := range b {
		for range 8 {
			on = append(on, x%2 == 1)
			x /= 2
		}
	}
	return on
}

// checkBits holds BitFirst, BitCount and BitRuns against what is asked bit by bit.
func checkBits(t *testing.T, b []byte, from, to int64) {
	t.Helper()
	first, count := int64(-1), int64(0)
	var runs []impl.FreeRun
	open := false
	for at, on := range plainBits(b) {
		i := int64(at)
		free := !on && from <= i && i < to
		if on && from <= i && i < to {
			count++
		}
		if free && first < 0 {
			first = i
		}
		if free && !open {
			runs = append(runs, impl.FreeRun{At: i})
		}
		if free {
			runs[len(runs)-1].Len++
		}
		open = free
	}
	if got := impl.BitFirst(b, from, to); got != first {
		t.Errorf("%d bytes: BitFirst from %d to %d is %d, not %d", len(b), from, to, got, first)
	}
	if got := impl.BitCount(b, from, to); got != count {
		t.Errorf("%d bytes: BitCount from %d to %d is %d, not %d", len(b), from, to, got, count)
	}
	if got := impl.BitRuns(b, from, to); !slices.Equal(got, runs) {
		t.Errorf("%d bytes: BitRuns from %d to %d are %v, not %v", len(b), from, to, got, runs)
	}
}

// checkBit holds BitGet and BitPut of one bit against the bytes with this bit alone changed.
func checkBit(t *testing.T, b []byte, i int64) {
	t.Helper()
	bits := plainBits(b)
	there := i >= 0 && i < int64(len(bits))
	if got := impl.BitGet(b, i); got != (there && bits[i]) {
		t.Errorf("%d bytes: BitGet of %d is %v", len(b), i, got)
	}
	for _, on := range []bool{false, true} {
		var want []byte
		if there {
			want = slices.Clone(b)
			if on != bits[i] {
				want[i/8] ^= []byte{1, 2, 4, 8, 16, 32, 64, 128}[i%8]
			}
		}
		if got := impl.BitPut(b, i, on); !bytes.Equal(got, want) {
			t.Errorf("%d bytes: BitPut of %d, %v is %v, not %v", len(b), i, on, got, want)
		}
	}
}

// bitEdges are the bounds of so many bytes of bits, and numbers that are far from all of them.
func bitEdges(n int) []int64 {
	last := int64(n)*8 - 1
	return []int64{math.MinInt64, math.MinInt64 + 1, -8, -1, 0, 1, 7, 8, last - 8, last - 1, last, last + 1, last + 8, 16383, 16384, 16391, 16392, math.MaxInt64 - 1, math.MaxInt64}
}

// edgeBytes are bytes of bits: of each length the document names, all on, all off, one bit apart, and drawn.
func edgeBytes() [][]byte {
	var lists [][]byte
	for _, n := range []int{0, 1, 2, 9, 64, 2047, 2048, 2049, 3000} {
		off, on := make([]byte, n), bytes.Repeat([]byte{255}, n)
		lists = append(lists, off, on, drawn(n, int64(n)))
		if n > 0 {
			first, last := slices.Clone(on), slices.Clone(on)
			first[0], last[n-1] = 254, 127
			one, other := slices.Clone(off), slices.Clone(off)
			one[0], other[n-1] = 1, 128
			lists = append(lists, first, last, one, other)
		}
	}
	return append(lists, nil)
}

// The bytes of the document's way to count bits, written down by hand.
func TestBitsByHand(t *testing.T) {
	b := []byte{0b00000001, 0b10000000, 0b00111100}
	for i := range int64(24) {
		if want := slices.Contains([]int64{0, 15, 18, 19, 20, 21}, i); impl.BitGet(b, i) != want {
			t.Error("bit", i, "is", !want)
		}
	}
	if got := impl.BitRuns(b, 0, 24); !slices.Equal(got, []impl.FreeRun{{At: 1, Len: 14}, {At: 16, Len: 2}, {At: 22, Len: 2}}) {
		t.Error("the runs are", got)
	}
	if got := impl.BitRuns(b, 5, 17); !slices.Equal(got, []impl.FreeRun{{At: 5, Len: 10}, {At: 16, Len: 1}}) {
		t.Error("the runs from 5 to 17 are", got)
	}
	if got := impl.BitRuns(b, 7, 9); !slices.Equal(got, []impl.FreeRun{{At: 7, Len: 2}}) {
		t.Error("the runs from 7 to 9 are", got)
	}
	if impl.BitFirst(b, 0, 24) != 1 || impl.BitFirst(b, 15, 24) != 16 || impl.BitFirst(b, 18, 22) != -1 || impl.BitFirst(b, 18, 23) != 22 || impl.BitFirst(b, 0, 1) != -1 {
		t.Error("BitFirst")
	}
	if impl.BitCount(b, 0, 24) != 6 || impl.BitCount(b, 1, 15) != 0 || impl.BitCount(b, 15, 16) != 1 || impl.BitCount(b, 19, 21) != 2 {
		t.Error("BitCount")
	}
	if got := impl.BitPut(b, 15, false); !bytes.Equal(got, []byte{1, 0, 60}) {
		t.Error("with bit 15 off:", got)
	}
	if got := impl.BitPut(b, 23, true); !bytes.Equal(got, []byte{1, 128, 188}) {
		t.Error("with bit 23 on:", got)
	}
}

// Each byte that there is, and each pair of bounds around it.
func TestBitsOfOneByte(t *testing.T) {
	for x := range 256 {
		b := []byte{byte(x)}
		for i := int64(-2); i < 11; i++ {
			checkBit(t, b, i)
			for to := int64(-2); to < 11; to++ {
				checkBits(t, b, i, to)
			}
		}
	}
}

// Runs that begin and end at each place of three bytes, the only ones that are off and the only ones that are on.
func TestBitsOfOneRun(t *testing.T) {
	for begin := range int64(24) {
		for end := begin + 1; end <= 24; end++ {
			off, on := make([]byte, 3), bytes.Repeat([]byte{255}, 3)
			for i := begin; i < end; i++ {
				off[i/8] |= 1 << (i % 8)
				on[i/8] &^= 1 << (i % 8)
			}
			if got := impl.BitRuns(on, 0, 24); !slices.Equal(got, []impl.FreeRun{{At: begin, Len: end - begin}}) {
				t.Fatal(begin, end, got)
			}
			for _, from := range []int64{-1, 0, begin - 1, begin, begin + 1, end - 1, end, end + 1, 8, 16} {
				for _, to := range []int64{0, begin - 1, begin, begin + 1, end - 1, end, end + 1, 8, 16, 24, 25} {
					checkBits(t, off, from, to)
					checkBits(t, on, from, to)
				}
			}
		}
	}
}

// No bytes, one, 2048 and 2049; from and to at all bounds, also the wrong way round; every bit at a bound.
func TestBitsEdges(t *testing.T) {
	t.Parallel()
	for _, b := range edgeBytes() {
		for _, from := range bitEdges(len(b)) {
			checkBit(t, b, from)
			for _, to := range bitEdges(len(b)) {
				if len(b) > 100 && from > 8 && from < int64(len(b))*8-9 && to > 8 && to < int64(len(b))*8-9 {
					continue
				}
				checkBits(t, b, from, to)
			}
		}
	}
}

// 16384 bits, and not one more: with a byte more there is none.
func TestBitsAtMost(t *testing.T) {
	most, over := make([]byte, 2048), make([]byte, 2049)
	if impl.BitFirst(most, 16383, 16384) != 16383 || impl.BitFirst(over, 0, 16392) != -1 {
		t.Error("BitFirst")
	}
	most[2047], over[2047], over[0] = 128, 128, 1
	if impl.BitCount(most, 0, math.MaxInt64) != 1 || !impl.BitGet(most, 16383) || impl.BitCount(over, 0, math.MaxInt64) != 0 || impl.BitGet(over, 0) || impl.BitGet(over, 16383) {
		t.Error("BitCount, BitGet")
	}
	if !slices.Equal(impl.BitRuns(most, math.MinInt64, math.MaxInt64), []impl.FreeRun{{At: 0, Len: 16383}}) || len(impl.BitRuns(over, 0, 10)) != 0 {
		t.Error("BitRuns")
	}
	if len(impl.BitPut(most, 16383, false)) != 2048 || len(impl.BitPut(most, 16384, true)) != 0 || len(impl.BitPut(over, 0, true)) != 0 {
		t.Error("BitPut")
	}
}

// drawnBits have long runs or short ones, of both kinds.
func drawnBits(draw *rand.Rand, n int) []byte {
	b := make([]byte, n)
	on, long := draw.Intn(2) == 0, 1+draw.Intn(30)
	for i := range n * 8 {
		if draw.Intn(long) == 0 {
			on = !on
		}
		if on {
			b[i/8] |= 1 << (i % 8)
		}
	}
	return b
}

func TestBitsDrawn(t *testing.T) {
	draw := rand.New(rand.NewSource(801))
	for range 4000 {
		b := drawnBits(draw, draw.Intn(12))
		near := int64(len(b))*8 + 12
		for range 12 {
			checkBits(t, b, draw.Int63n(near)-6, draw.Int63n(near)-6)
			checkBit(t, b, draw.Int63n(near)-6)
		}
	}
	for range 60 {
		b := drawnBits(draw, 1990+draw.Intn(60))
		checkBits(t, b, draw.Int63n(17000)-300, draw.Int63n(17000)-300)
		checkBits(t, b, draw.Int63n(3000)-300, 16384-draw.Int63n(300))
		checkBit(t, b, draw.Int63n(17000)-300)
	}
}

// What was put is got, at this bit and at no other; the first bit that is off, put on again and again, fills the bytes.
func TestBitsPutAndGot(t *testing.T) {
	draw := rand.New(rand.NewSource(802))
	b := drawnBits(draw, 7)
	for range 300 {
		i, on := draw.Int63n(56), draw.Intn(2) == 0
		next := impl.BitPut(b, i, on)
		for k := range int64(56) {
			if want := k == i && on || k != i && impl.BitGet(b, k); impl.BitGet(next, k) != want {
				t.Fatal("with bit", i, on, "bit", k, "is", !want)
			}
		}
		b = next
	}
	free := 50 - 3 - impl.BitCount(b, 3, 50)
	for range free {
		b = impl.BitPut(b, impl.BitFirst(b, 3, 50), true)
	}
	if impl.BitFirst(b, 3, 50) != -1 || impl.BitCount(b, 3, 50) != 47 || len(impl.BitRuns(b, 3, 50)) != 0 {
		t.Error("not all of them are on")
	}
}
