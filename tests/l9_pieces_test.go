package tests

import (
	"math"
	"math/rand"
	"slices"
	"testing"

	"loop.example/s01525/impl"
)

func TestSpansByHand(t *testing.T) {
	for _, c := range []struct {
		offset, n int64
		want      []impl.Span
	}{
		{60, 70, []impl.Span{{Index: 0, From: 60, Count: 4, At: 0}, {Index: 1, From: 0, Count: 64, At: 4}, {Index: 2, From: 0, Count: 2, At: 68}}},
		{0, 1, []impl.Span{{Count: 1}}},
		{0, 64, []impl.Span{{Count: 64}}},
		{0, 65, []impl.Span{{Count: 64}, {Index: 1, Count: 1, At: 64}}},
		{63, 1, []impl.Span{{From: 63, Count: 1}}},
		{63, 2, []impl.Span{{From: 63, Count: 1}, {Index: 1, Count: 1, At: 1}}},
		{64, 64, []impl.Span{{Index: 1, Count: 64}}},
		{70, 5, []impl.Span{{Index: 1, From: 6, Count: 5}}},
		{2559, 1, []impl.Span{{Index: 39, From: 63, Count: 1}}},
		{2495, 65, []impl.Span{{Index: 38, From: 63, Count: 1}, {Index: 39, Count: 64, At: 1}}},
		{0, 0, nil}, {2560, 0, nil}, {2560, 1, nil}, {2559, 2, nil}, {-1, 1, nil}, {-1, 2, nil}, {1, -1, nil}, {2561, 0, nil}, {2561, -1, nil},
		{math.MaxInt64, math.MaxInt64, nil}, {math.MinInt64, math.MaxInt64, nil}, {math.MaxInt64, math.MinInt64, nil}, {math.MinInt64, math.MinInt64, nil}, {1, math.MaxInt64, nil}, {math.MaxInt64, 1, nil},
	} {
		if got := impl.Spans(c.offset, c.n); !slices.Equal(got, c.want) {
			t.Errorf("Spans(%d, %d): %v, not %v", c.offset, c.n, got, c.want)
		}
	}
	if got := impl.Spans(0, 2560); len(got) != 40 || got[39] != (impl.Span{Index: 39, Count: 64, At: 2496}) {
		t.Error("the largest file:", got)
	}
}

func spanEdges() []int64 {
	return []int64{math.MinInt64, math.MinInt64 + 1, -2560, -64, -1, 0, 1, 2, 63, 64, 65, 127, 128, 129, 511, 512, 513, 2495, 2496, 2497, 2559, 2560, 2561, 2624, math.MaxInt64 - 2560, math.MaxInt64 - 1, math.MaxInt64}
}

// checkSpans holds the pieces against those that come of going byte by byte.
func checkSpans(t *testing.T, offset, n int64) {
	t.Helper()
	if got, want := impl.Spans(offset, n), plainSpans(offset, n); !slices.Equal(got, want) {
		t.Errorf("Spans(%d, %d): %v, not %v", offset, n, got, want)
	}
}

// All pairs of bounds, those whose sum no int64 holds among them, and many that are drawn.
func TestSpans(t *testing.T) {
	for _, offset := range spanEdges() {
		for _, n := range spanEdges() {
			checkSpans(t, offset, n)
		}
	}
	for offset := int64(-2); offset < 200; offset++ {
		for n := int64(-2); n < 200; n++ {
			checkSpans(t, offset, n)
		}
	}
	draw := rand.New(rand.NewSource(96))
	for range 5000 {
		offset := draw.Int63n(2600) - 20
		checkSpans(t, offset, draw.Int63n(2600)-20)
		checkSpans(t, offset, 2560-offset)
		checkSpans(t, offset, 2561-offset)
	}
}

func repeated(n int, list ...int64) []int64 {
	out := make([]int64, n)
	for i := range out {
		out[i] = list[i%len(list)]
	}
	return out
}

func TestFileNeedByHand(t *testing.T) {
	for _, c := range []struct {
		list []int64
		want int64
	}{
		{nil, 0}, {[]int64{}, 0}, {[]int64{3, 8, 3}, 3}, {[]int64{0}, 1}, {[]int64{7}, 1}, {[]int64{8}, 2}, {[]int64{39}, 2}, {[]int64{40}, -1}, {[]int64{-1}, -1},
		{[]int64{7, 7, 7}, 1}, {[]int64{8, 8, 8}, 2}, {[]int64{39, 8}, 3}, {runOf(0, 8), 8}, {runOf(0, 9), 10}, {runOf(0, 40), 41}, {runOf(8, 32), 33}, {runOf(0, 41), -1},
		{[]int64{0, 1, -1}, -1}, {[]int64{40, 0}, -1}, {[]int64{math.MinInt64}, -1}, {[]int64{5, math.MaxInt64}, -1},
		{repeated(100000, 5), 1}, {repeated(100000, 5, 8), 3}, {repeated(100000, runOf(0, 40)...), 41}, {repeated(100001, 5), -1}, {append(repeated(99999, 5), 40), -1},
	} {
		if got := impl.FileNeed(c.list); got != c.want {
			t.Errorf("FileNeed of %d numbers, %v ..: %d, not %d", len(c.list), c.list[:min(len(c.list), 5)], got, c.want)
		}
	}
}

// Many drawn lists of indexes, some of which no file has.
func TestFileNeed(t *testing.T) {
	draw := rand.New(rand.NewSource(97))
	seen := map[int64]int{}
	for range 20000 {
		list := make([]int64, draw.Intn(60))
		most := []int64{8, 9, 40, 40}[draw.Intn(4)]
		for i := range list {
			list[i] = draw.Int63n(most)
		}
		if len(list) > 0 && draw.Intn(4) == 0 {
			list[draw.Intn(len(list))] = farNumbers()[draw.Intn(len(farNumbers()))]
		}
		want := plainNeed(list)
		if got := impl.FileNeed(list); got != want {
			t.Errorf("FileNeed of %v: %d, not %d", list, got, want)
		}
		seen[want]++
	}
	if len(seen) < 25 {
		t.Error("too few answers were seen:", seen)
	}
}

// What a file needs for the pieces of a write are its blocks, and one more from index 8 on.
func TestFileNeedOfSpans(t *testing.T) {
	draw := rand.New(rand.NewSource(98))
	for range 3000 {
		offset := draw.Int63n(2560)
		n := 1 + draw.Int63n(2560-offset)
		var indexes []int64
		for _, s := range impl.Spans(offset, n) {
			indexes = append(indexes, s.Index)
		}
		want := (offset+n-1)/64 - offset/64 + 1
		if offset+n > 512 {
			want++
		}
		if got := impl.FileNeed(indexes); got != want {
			t.Errorf("%d bytes at %d need %d, not %d", n, offset, got, want)
		}
	}
}
