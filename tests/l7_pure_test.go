package tests

import (
	"math"
	"math/rand"
	"slices"
	"sync"
	"testing"

	"loop.example/s01525/impl"
)

func TestPureLayout(t *testing.T) {
	edges := edgeGeometries()
	var list []impl.Geometry
	for i := 0; i < len(edges); i += 31 {
		list = append(list, edges[i])
	}
	for _, g := range append(list, turnedGeometries()...) {
		for name, fn := range map[string]any{"ValidGeometry": impl.ValidGeometry, "Layout": impl.Layout, "EncodeSuper": impl.EncodeSuper, "Mkfs": impl.Mkfs} {
			checkPure(t, pureCase{name, fn, func() []any { return []any{g} }})
		}
	}
}

func TestPureDecodeSuper(t *testing.T) {
	lists := [][]byte{nil, {}, make([]byte, 64), drawn(64, 3)}
	for _, g := range turnedGeometries() {
		b := geometryKind().plain(g)
		other := slices.Clone(b)
		other[9] ^= 1
		lists = append(lists, b, other, withSum(slices.Clone(other)), b[:63], append(slices.Clone(b), 0))
	}
	for _, b := range lists {
		checkPure(t, pureCase{"DecodeSuper", impl.DecodeSuper, func() []any { return []any{slices.Clone(b)} }})
	}
}

func TestPureBits(t *testing.T) {
	for _, n := range []int{0, 1, 9, 64, 2048, 2049} {
		b := drawn(n, int64(n))
		last := int64(n)*8 - 1
		for _, i := range []int64{math.MinInt64, -1, 0, 5, last, last + 1, math.MaxInt64} {
			checkPure(t, pureCase{"BitGet", impl.BitGet, func() []any { return []any{slices.Clone(b), i} }})
			for _, on := range []bool{false, true} {
				checkPure(t, pureCase{"BitPut", impl.BitPut, func() []any { return []any{slices.Clone(b), i, on} }})
			}
			for _, to := range []int64{math.MinInt64, 0, 6, last + 1, math.MaxInt64} {
				for name, fn := range map[string]any{"BitFirst": impl.BitFirst, "BitCount": impl.BitCount, "BitRuns": impl.BitRuns} {
					checkPure(t, pureCase{name, fn, func() []any { return []any{slices.Clone(b), i, to} }})
				}
			}
		}
	}
	checkPure(t, pureCase{"BitPut of nil", impl.BitPut, func() []any { return []any{[]byte(nil), int64(0), true} }})
}

// A bit that is put as it was gives new bytes all the same, and two answers share none.
func TestPureLayoutApart(t *testing.T) {
	b := []byte{5, 6}
	for i := range int64(16) {
		for _, on := range []bool{false, true} {
			got := impl.BitPut(b, i, on)
			checkApart(t, "BitPut", []any{b}, got)
			checkApart(t, "BitPut", []any{got}, impl.BitPut(b, i, on))
		}
	}
	checkApart(t, "BitRuns", []any{impl.BitRuns(b, 0, 16)}, impl.BitRuns(b, 0, 16))
	g := impl.Geometry{Blocks: 60, Log: 16, Inodes: 8}
	checkApart(t, "EncodeSuper", []any{impl.EncodeSuper(g)}, impl.EncodeSuper(g))
	checkApart(t, "Mkfs", []any{impl.Mkfs(g)}, impl.Mkfs(g))
}

// layoutCalls makes all ten functions answer, wrong arguments among them, and tells all of it.
func layoutCalls(seed int64) string {
	draw := rand.New(rand.NewSource(seed))
	var told []any
	for range 12 {
		g := drawnGeometry(draw)
		if draw.Intn(4) == 0 {
			g.Log += draw.Int63n(500) - 250
		}
		b := impl.EncodeSuper(g)
		d := impl.Mkfs(g)
		told = append(told, impl.ValidGeometry(g), impl.Layout(g), b, impl.DecodeSuper(b), len(d.Durable))
		bits := drawnBits(draw, draw.Intn(20))
		if p := impl.Layout(g); p.Data > 0 {
			bits = slices.Clone(d.Durable[p.InodeMap*64 : p.Data*64])
		}
		from, to := draw.Int63n(400)-100, draw.Int63n(2000)-100
		told = append(told, impl.BitGet(bits, from), impl.BitPut(bits, from, draw.Intn(2) == 0), impl.BitFirst(bits, from, to), impl.BitCount(bits, from, to), impl.BitRuns(bits, from, to))
	}
	return value(told)
}

// What a call answers does not hang on what was called before it, nor beside it.
func TestPureLayoutCalls(t *testing.T) {
	first := layoutCalls(3)
	for seed := range int64(10) {
		layoutCalls(seed)
		if layoutCalls(3) != first {
			t.Fatal("behind other calls the same calls answer otherwise, seed", seed)
		}
	}
	var got [8]string
	var all sync.WaitGroup
	for i := range got {
		all.Add(1)
		go func() {
			defer all.Done()
			got[i] = layoutCalls(3)
		}()
	}
	all.Wait()
	for i, g := range got {
		if g != first {
			t.Error("calls at once answer otherwise:", i)
		}
	}
}
