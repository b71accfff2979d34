package tests

import (
	"math"
	"math/rand"
	"slices"
	"strings"
	"sync"
	"testing"

	"loop.example/s01525/impl"
)

func TestPureInodes(t *testing.T) {
	draw := rand.New(rand.NewSource(111))
	list := append(turnedInodes(), impl.Inode{}, impl.Inode{Kind: 1, Links: 1}, inodeOf(1, 9, 64, 1), inodeOf(4, 1, 64, 1), inodeOf(2, 1, 80, 2047))
	for _, n := range []int{0, 1, 7, 9, 100} {
		i := inodeOf(1, 1, 2560, 1)
		i.Direct = drawnPointers(draw, n)
		list = append(list, i)
	}
	for _, i := range list {
		for name, fn := range map[string]any{"ValidInode": impl.ValidInode, "EncodeInode": impl.EncodeInode} {
			checkPure(t, pureCase{name, fn, func() []any { return []any{copied(i)} }})
		}
	}
	for _, n := range []int{0, 1, 31, 32, 33} {
		p := drawnPointers(draw, n)
		wrong := slices.Clone(p)
		if n > 0 {
			wrong[n-1] = 2048
		}
		checkPure(t, pureCase{"EncodePointers", impl.EncodePointers, func() []any { return []any{slices.Clone(p)} }})
		checkPure(t, pureCase{"EncodePointers", impl.EncodePointers, func() []any { return []any{slices.Clone(wrong)} }})
	}
}

// pureBytes are bytes that the four decoders take, and others.
func pureBytes() [][]byte {
	lists := [][]byte{nil, {}, make([]byte, 16), make([]byte, 32), make([]byte, 64), drawn(32, 3), drawn(64, 4)}
	draw := rand.New(rand.NewSource(112))
	for _, k := range []journalKind{inodeKind(), pointersKind(), entryKind(), dirKind()} {
		for range 6 {
			b := k.plain(k.drawn(draw))
			other := slices.Clone(b)
			if len(other) > 0 {
				other[draw.Intn(len(other))] ^= 9
				lists = append(lists, b[:len(b)-1])
			}
			lists = append(lists, b, other, append(slices.Clone(b), 0))
		}
	}
	return append(lists, dirKind().plain(manyEntries(160)), dirKind().plain(manyEntries(161)))
}

func TestPureDecoders(t *testing.T) {
	for _, b := range pureBytes() {
		for name, fn := range map[string]any{"DecodeInode": impl.DecodeInode, "DecodePointers": impl.DecodePointers, "DecodeEntry": impl.DecodeEntry, "DecodeDir": impl.DecodeDir} {
			checkPure(t, pureCase{name, fn, func() []any { return []any{slices.Clone(b)} }})
		}
	}
}

func TestPurePieces(t *testing.T) {
	for _, offset := range spanEdges() {
		for _, n := range []int64{math.MinInt64, -1, 0, 1, 64, 200, 2560, math.MaxInt64} {
			checkPure(t, pureCase{"Spans", impl.Spans, func() []any { return []any{offset, n} }})
		}
	}
	for _, list := range [][]int64{nil, {}, {3, 8, 3}, {39, 0}, {40}, {5, -1}, runOf(0, 40), repeated(100000, 7, 9), repeated(100001, 7)} {
		checkPure(t, pureCase{"FileNeed", impl.FileNeed, func() []any { return []any{slices.Clone(list)} }})
	}
}

func TestPureNames(t *testing.T) {
	for _, name := range append(oddNames(), "a", "...", "abcdefghijklm") {
		checkPure(t, pureCase{"ValidName", impl.ValidName, func() []any { return []any{strings.Clone(name)} }})
		for _, path := range []string{name, "/" + name, "/a/" + name + "/b", strings.Repeat("/"+name, 16), strings.Repeat("/"+name, 17)} {
			checkPure(t, pureCase{"SplitPath", impl.SplitPath, func() []any { return []any{strings.Clone(path)} }})
		}
	}
}

func TestPureDirectories(t *testing.T) {
	draw := rand.New(rand.NewSource(113))
	for _, e := range append(turnedEntries(), anyEntries(draw, 10)...) {
		checkPure(t, pureCase{"EncodeEntry", impl.EncodeEntry, func() []any { return []any{e} }})
	}
	lists := [][]impl.Entry{nil, {}, manyEntries(160), manyEntries(161), manyEntries(1001)}
	for _, n := range []int{1, 2, 3, 8} {
		lists = append(lists, drawnDir(draw, n), anyEntries(draw, n))
	}
	for _, list := range lists {
		for name, fn := range map[string]any{"EncodeDir": impl.EncodeDir, "DirNames": impl.DirNames} {
			checkPure(t, pureCase{name, fn, func() []any { return []any{slices.Clone(list)} }})
		}
		for _, name := range []string{"", "a", "n5", "nobody", "\xff"} {
			checkPure(t, pureCase{"DirFind", impl.DirFind, func() []any { return []any{slices.Clone(list), name} }})
		}
		last := int64(len(list)) - 1
		for _, at := range []int64{math.MinInt64, -1, 0, last - 1, last, last + 1, math.MaxInt64} {
			checkPure(t, pureCase{"DirRemove", impl.DirRemove, func() []any { return []any{slices.Clone(list), at} }})
		}
	}
}

// Two answers of one call share nothing, and the entries that are as they were are new all the same.
func TestPureNamesApart(t *testing.T) {
	entries := manyEntries(4)
	for at := int64(-1); at <= 4; at++ {
		got := impl.DirRemove(entries, at)
		checkApart(t, "DirRemove", []any{entries}, got)
		checkApart(t, "DirRemove", []any{got}, impl.DirRemove(entries, at))
	}
	i := inodeOf(1, 1, 600, 20)
	b := impl.EncodeInode(i)
	checkApart(t, "EncodeInode", []any{b}, impl.EncodeInode(i))
	checkApart(t, "DecodeInode", []any{b, impl.DecodeInode(b)}, impl.DecodeInode(b))
	p := impl.EncodePointers(runOf(1, 32))
	checkApart(t, "EncodePointers", []any{p}, impl.EncodePointers(runOf(1, 32)))
	checkApart(t, "DecodePointers", []any{p, impl.DecodePointers(p)}, impl.DecodePointers(p))
	d := impl.EncodeDir(entries)
	checkApart(t, "EncodeDir", []any{d}, impl.EncodeDir(entries))
	checkApart(t, "DecodeDir", []any{d, impl.DecodeDir(d)}, impl.DecodeDir(d))
	checkApart(t, "EncodeEntry", []any{impl.EncodeEntry(entries[0])}, impl.EncodeEntry(entries[0]))
	checkApart(t, "DirNames", []any{impl.DirNames(entries)}, impl.DirNames(entries))
	checkApart(t, "SplitPath", []any{impl.SplitPath("/a/b")}, impl.SplitPath("/a/b"))
	checkApart(t, "Spans", []any{impl.Spans(60, 70)}, impl.Spans(60, 70))
}

// nameCalls makes all sixteen functions answer, wrong arguments among them, and tells all of it.
func nameCalls(seed int64) string {
	draw := rand.New(rand.NewSource(seed))
	var told []any
	for range 10 {
		i := drawnInode(draw)
		i.Size += draw.Int63n(3) - 1
		p := drawnPointers(draw, 31+draw.Intn(2))
		b, q := inodeKind().plain(drawnInode(draw)), pointersKind().plain(drawnPointers(draw, 32))
		told = append(told, impl.ValidInode(i), impl.EncodeInode(i), impl.DecodeInode(b), impl.EncodePointers(p), impl.DecodePointers(q))
		told = append(told, impl.Spans(draw.Int63n(2000)-10, draw.Int63n(700)), impl.FileNeed(p[:draw.Intn(3)]), impl.FileNeed(runOf(draw.Int63n(30), 7)))
		name := drawnName(draw)
		path := strings.Repeat("/"+name, draw.Intn(18)) + []string{"", "/", "/abcdefghijklmn"}[draw.Intn(3)]
		told = append(told, impl.ValidName(name), impl.ValidName(path), impl.SplitPath(path))
		entries, odd := drawnDir(draw, draw.Intn(9)), anyEntries(draw, 5)
		d := impl.EncodeDir(entries)
		told = append(told, d, impl.EncodeDir(odd), impl.DecodeDir(d), impl.DecodeDir(b), impl.EncodeEntry(odd[0]), impl.DecodeEntry(b[:16]))
		told = append(told, impl.DirFind(odd, odd[3].Name), impl.DirFind(odd, name), impl.DirRemove(odd, draw.Int63n(7)-1), impl.DirNames(odd), impl.DirNames(entries))
	}
	return value(told)
}

// What a call answers does not hang on what was called before it, nor beside it.
func TestPureNameCalls(t *testing.T) {
	first := nameCalls(3)
	for seed := range int64(20) {
		nameCalls(seed)
		if nameCalls(3) != first {
			t.Fatal("behind other calls the same calls answer otherwise, seed", seed)
		}
	}
	var got [8]string
	var all sync.WaitGroup
	for i := range got {
		all.Add(1)
		go func() {
			defer all.Done()
			got[i] = nameCalls(3)
		}()
	}
	all.Wait()
	for i, g := range got {
		if g != first {
			t.Error("calls at once answer otherwise:", i)
		}
	}
}
