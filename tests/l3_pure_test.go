package tests

import (
	"math"
	"math/rand"
	"slices"
	"sync"
	"testing"

	"loop.example/s01525/impl"
)

// pureBlocks are lists of bytes for everything that takes a block: blocks of each kind, whole and not, data, and other lengths.
func pureBlocks() [][]byte {
	draw := rand.New(rand.NewSource(51))
	lists := [][]byte{nil, {}, make([]byte, 64), beginning(1, magic...), beginning(2, 0, 0, 0, 0), drawn(64, 3), drawn(63, 4), drawn(65, 5)}
	for _, k := range journalKinds() {
		for _, thing := range turnedThings(k, draw) {
			b := k.plain(thing)
			other := slices.Clone(b)
			other[5+draw.Intn(59)] ^= 1
			lists = append(lists, b, other, b[:63], append(slices.Clone(b), 0))
		}
	}
	return lists
}

func TestPureJournalBlocks(t *testing.T) {
	for _, b := range pureBlocks() {
		for name, fn := range map[string]any{
			"BlockKind": impl.BlockKind, "DecodeJSuper": impl.DecodeJSuper, "DecodeDescriptor": impl.DecodeDescriptor,
			"DecodeRevoke": impl.DecodeRevoke, "DecodeCommit": impl.DecodeCommit, "Escape": impl.Escape,
		} {
			checkPure(t, pureCase{name, fn, func() []any { return []any{slices.Clone(b)} }})
		}
		for _, escaped := range []bool{false, true} {
			checkPure(t, pureCase{"Unescape", impl.Unescape, func() []any { return []any{slices.Clone(b), escaped} }})
		}
	}
}

func TestPureJournalThings(t *testing.T) {
	for _, n := range []int64{math.MinInt64, -1, 0, 1, 15, 16, 511, 512, 513, 4294967295, 4294967296, math.MaxInt64} {
		checkPure(t, pureCase{"EncodeJSuper", impl.EncodeJSuper, func() []any { return []any{impl.JSuper{Log: n, Start: 3, Seq: 5}} }})
		checkPure(t, pureCase{"EncodeJSuper", impl.EncodeJSuper, func() []any { return []any{impl.JSuper{Log: 512, Start: n, Seq: n}} }})
		checkPure(t, pureCase{"EncodeCommit", impl.EncodeCommit, func() []any { return []any{impl.Commit{Seq: n, Count: 4, Sum: 5}} }})
		checkPure(t, pureCase{"EncodeCommit", impl.EncodeCommit, func() []any { return []any{impl.Commit{Seq: 1, Count: n, Sum: n}} }})
		for _, count := range []int{0, 1, 2, 17, 18, 26, 27, 300} {
			for _, from := range []int64{-1, 0, 5, 2030, 2048} {
				checkPure(t, pureCase{"EncodeDescriptor", impl.EncodeDescriptor, func() []any {
					return []any{impl.Descriptor{Seq: n, Tags: asTags(runOf(from, count))}}
				}})
				checkPure(t, pureCase{"EncodeRevoke", impl.EncodeRevoke, func() []any {
					return []any{impl.Revoke{Seq: n, Blocks: runOf(from, count)}}
				}})
			}
		}
	}
	checkPure(t, pureCase{"EncodeDescriptor", impl.EncodeDescriptor, func() []any {
		return []any{impl.Descriptor{Seq: 3, Tags: asTags([]int64{9, 4, 4})}}
	}})
	checkPure(t, pureCase{"EncodeRevoke", impl.EncodeRevoke, func() []any { return []any{impl.Revoke{Seq: 3, Blocks: []int64{9, 4, 4}}} }})
}

// journalCalls makes all eleven functions answer, wrong arguments among them, and tells all of it.
func journalCalls(seed int64) string {
	draw := rand.New(rand.NewSource(seed))
	var told []any
	for range 8 {
		for _, k := range journalKinds() {
			thing := k.drawn(draw)
			b := k.encode(thing)
			told = append(told, b)
			if draw.Intn(3) == 0 {
				b[draw.Intn(64)] ^= 1
			}
			for _, other := range journalKinds() {
				good, got := other.decode(b)
				told = append(told, good, got, other.encode(got))
			}
			e := impl.Escape(b)
			told = append(told, impl.BlockKind(b), e, impl.Unescape(e.Data, true), impl.Unescape(e.Data, false), impl.Unescape(b, e.Escaped))
		}
	}
	return value(told)
}

// What a call answers does not hang on what was called before it, nor beside it.
func TestPureJournalCalls(t *testing.T) {
	first := journalCalls(3)
	for seed := range int64(20) {
		journalCalls(seed)
		if journalCalls(3) != first {
			t.Fatal("behind other calls the same calls answer otherwise, seed", seed)
		}
	}
	var got [8]string
	var all sync.WaitGroup
	for i := range got {
		all.Add(1)
		go func() {
			defer all.Done()
			got[i] = journalCalls(3)
		}()
	}
	all.Wait()
	for i, g := range got {
		if g != first {
			t.Error("calls at once answer otherwise:", i)
		}
	}
}

// Two answers share no memory, and what is done to one is not seen in the next.
func TestPureJournalApart(t *testing.T) {
	draw := rand.New(rand.NewSource(52))
	for _, k := range journalKinds() {
		thing := k.drawn(draw)
		one, two := k.encode(thing), k.encode(thing)
		checkApart(t, k.name, []any{one}, two)
		_, first := k.decode(one)
		_, second := k.decode(one)
		checkApart(t, k.name+" decoded", []any{first}, second)
	}
	b := beginning(7, magic...)
	checkApart(t, "Escape", []any{impl.Escape(b)}, impl.Escape(b))
	zeros := beginning(7, 0, 0, 0, 0)
	checkApart(t, "Unescape", []any{impl.Unescape(zeros, true)}, impl.Unescape(zeros, true))
	if string(magic) != "jlog" {
		t.Error("the magic of the tests was changed")
	}
}
