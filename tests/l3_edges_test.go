package tests

import (
	"bytes"
	"math"
	"slices"
	"testing"

	"loop.example/s01525/impl"
)

// ends are the numbers that stand at the ends of everything.
var ends = []int64{math.MinInt64, math.MinInt64 + 1, -4294967295, -65535, -2, -1, 0, 1, 2, 255, 256, 65535, 65536, 65552, math.MaxInt64 - 1, math.MaxInt64}

// seqEdges are around those of Seq and Sum, and one that is good modulo 2 to the 32.
var seqEdges = append([]int64{4294967294, 4294967295, 4294967296, 4294967297, 1 << 40}, ends...)

func TestSuperEdges(t *testing.T) {
	k := superKind()
	logs := append([]int64{14, 15, 16, 17, 511, 512, 513, 65536 + 16}, ends...)
	for _, log := range logs {
		starts := append([]int64{15, 16, 17, 511, 512, 513, 65536 + 3}, ends...)
		if log > 0 && log < 1<<20 {
			starts = append(starts, log-1, log, log+1)
		}
		for _, start := range starts {
			for _, seq := range seqEdges {
				checkThing(t, k, impl.JSuper{Log: log, Start: start, Seq: seq})
			}
		}
	}
}

func TestCommitEdges(t *testing.T) {
	k := commitKind()
	for _, count := range append([]int64{510, 511, 512, 513, 65537}, ends...) {
		for _, sum := range seqEdges {
			for _, seq := range seqEdges {
				checkThing(t, k, impl.Commit{Seq: seq, Count: count, Sum: sum})
			}
		}
	}
}

// asTags are tags of these blocks, every third of them escaped.
func asTags(blocks []int64) []impl.Tag {
	tags := []impl.Tag{}
	for i, b := range blocks {
		tags = append(tags, impl.Tag{Block: b, Escaped: i%3 == 1})
	}
	return tags
}

// checkBlocks holds a descriptor and a revoke block of these blocks against the table.
func checkBlocks(t *testing.T, seq int64, blocks []int64) {
	t.Helper()
	checkThing(t, descriptorKind(), impl.Descriptor{Seq: seq, Tags: asTags(blocks)})
	checkThing(t, revokeKind(), impl.Revoke{Seq: seq, Blocks: blocks})
}

// runOf are n blocks in a row.
func runOf(from int64, n int) []int64 {
	blocks := []int64{}
	for i := range int64(n) {
		blocks = append(blocks, from+i)
	}
	return blocks
}

func TestListsEdges(t *testing.T) {
	for _, seq := range seqEdges {
		for _, n := range []int{0, 1, 2, 16, 17, 18, 25, 26, 27, 100, 255, 256, 257, 2048} {
			for _, from := range []int64{-1, 0, 2047 - int64(n), 2048 - int64(n), 2049 - int64(n), 2040} {
				checkBlocks(t, seq, runOf(from, n))
			}
		}
		checkBlocks(t, seq, nil)
		for _, b := range append([]int64{2046, 2047, 2048, 2049, 65536 + 30}, ends...) {
			checkBlocks(t, seq, []int64{b})
			checkBlocks(t, seq, []int64{0, b})
			checkBlocks(t, seq, []int64{b, 2047})
			checkBlocks(t, seq, []int64{3, b, 2000})
		}
	}
}

// Blocks that are alike or fall are not valid, wherever they stand in the list.
func TestListsRise(t *testing.T) {
	for _, n := range []int{2, 3, 17, 26} {
		for at := 1; at < n; at++ {
			alike := runOf(100, n)
			alike[at] = alike[at-1]
			falls := runOf(100, n)
			falls[at-1], falls[at] = falls[at], falls[at-1]
			back := runOf(100, n)
			back[at] = 5
			for _, blocks := range [][]int64{alike, falls, back} {
				checkBlocks(t, 7, blocks)
				if len(impl.EncodeRevoke(impl.Revoke{Seq: 7, Blocks: blocks})) != 0 || len(impl.EncodeDescriptor(impl.Descriptor{Seq: 7, Tags: asTags(blocks)})) != 0 {
					t.Fatal("encoded:", blocks)
				}
			}
		}
	}
	// Escaped or not, two tags of one block are alike.
	for _, tags := range [][]impl.Tag{{{Block: 4}, {Block: 4, Escaped: true}}, {{Block: 4, Escaped: true}, {Block: 4}}} {
		if len(impl.EncodeDescriptor(impl.Descriptor{Seq: 7, Tags: tags})) != 0 {
			t.Error("encoded:", tags)
		}
	}
}

// What Encode refuses is refused as bytes too, where it has bytes: this asks it of some outright.
func TestBytesThatAreRefused(t *testing.T) {
	super := func(first ...byte) []byte {
		b := padded(first...)
		copy(b[60:], plainNumber(plainCrcOn(0, b[:60]), 4))
		return b
	}
	kinds := journalKinds()
	for name, c := range map[string]struct {
		kind journalKind
		b    []byte
	}{
		"Log 15":           {kinds[0], super(106, 108, 111, 103, 1, 0, 0, 15, 0, 0, 0, 1, 0, 3)},
		"Log 513":          {kinds[0], super(106, 108, 111, 103, 1, 0, 2, 1, 0, 0, 0, 1, 0, 3)},
		"Start 17 of 16":   {kinds[0], super(106, 108, 111, 103, 1, 0, 0, 16, 0, 0, 0, 1, 0, 17)},
		"Seq 0":            {kinds[0], super(106, 108, 111, 103, 1, 0, 0, 16, 0, 0, 0, 0, 0, 3)},
		"byte 5":           {kinds[0], super(106, 108, 111, 103, 1, 1, 0, 16, 0, 0, 0, 1, 0, 3)},
		"behind Start":     {kinds[0], super(106, 108, 111, 103, 1, 0, 0, 16, 0, 0, 0, 1, 0, 3, 1)},
		"another magic":    {kinds[0], super(106, 108, 111, 102, 1, 0, 0, 16, 0, 0, 0, 1, 0, 3)},
		"kind 2, with sum": {kinds[0], super(106, 108, 111, 103, 2, 0, 0, 16, 0, 0, 0, 1, 0, 3)},
		"no tags":          {kinds[1], padded(106, 108, 111, 103, 2, 0, 0, 0, 0, 0, 0, 7)},
		"a tag too few":    {kinds[1], padded(106, 108, 111, 103, 2, 0, 0, 1, 0, 0, 0, 7, 0, 30, 0, 1, 44, 1)},
		"a tag too many":   {kinds[1], padded(106, 108, 111, 103, 2, 0, 0, 3, 0, 0, 0, 7, 0, 30, 0, 1, 44, 1)},
		"257 tags":         {kinds[1], padded(106, 108, 111, 103, 2, 0, 1, 1, 0, 0, 0, 7, 0, 30, 0)},
		"a flag of 2":      {kinds[1], padded(106, 108, 111, 103, 2, 0, 0, 1, 0, 0, 0, 7, 0, 30, 2)},
		"a flag of 255":    {kinds[1], padded(106, 108, 111, 103, 2, 0, 0, 1, 0, 0, 0, 7, 0, 30, 255)},
		"block 2048":       {kinds[1], padded(106, 108, 111, 103, 2, 0, 0, 1, 0, 0, 0, 7, 8, 0, 0)},
		"behind the tags":  {kinds[1], padded(106, 108, 111, 103, 2, 0, 0, 1, 0, 0, 0, 7, 0, 30, 0, 0, 0, 1)},
		"byte 5 of 2":      {kinds[1], padded(106, 108, 111, 103, 2, 1, 0, 1, 0, 0, 0, 7, 0, 30, 0)},
		"no numbers":       {kinds[2], padded(106, 108, 111, 103, 3, 0, 0, 0, 0, 0, 0, 7)},
		"a number less":    {kinds[2], padded(106, 108, 111, 103, 3, 0, 0, 1, 0, 0, 0, 7, 0, 5, 1, 44)},
		"a number more":    {kinds[2], padded(106, 108, 111, 103, 3, 0, 0, 3, 0, 0, 0, 7, 0, 5, 1, 44)},
		"65535 numbers":    {kinds[2], padded(106, 108, 111, 103, 3, 0, 255, 255, 0, 0, 0, 7, 0, 5, 1, 44)},
		"falling numbers":  {kinds[2], padded(106, 108, 111, 103, 3, 0, 0, 2, 0, 0, 0, 7, 1, 44, 0, 5)},
		"number 2048":      {kinds[2], padded(106, 108, 111, 103, 3, 0, 0, 1, 0, 0, 0, 7, 8, 0)},
		"byte 5 of 3":      {kinds[2], padded(106, 108, 111, 103, 3, 1, 0, 1, 0, 0, 0, 7, 0, 5)},
		"Seq 0 of 3":       {kinds[2], padded(106, 108, 111, 103, 3, 0, 0, 1, 0, 0, 0, 0, 0, 5)},
		"Count 0":          {kinds[3], padded(106, 108, 111, 103, 4, 0, 0, 0, 0, 0, 0, 7, 0, 0, 1, 2)},
		"Count 512":        {kinds[3], padded(106, 108, 111, 103, 4, 0, 2, 0, 0, 0, 0, 7, 0, 0, 1, 2)},
		"Seq 0 of 4":       {kinds[3], padded(106, 108, 111, 103, 4, 0, 0, 3, 0, 0, 0, 0, 0, 0, 1, 2)},
		"behind Sum":       {kinds[3], padded(106, 108, 111, 103, 4, 0, 0, 3, 0, 0, 0, 7, 0, 0, 1, 2, 1)},
		"byte 5 of 4":      {kinds[3], padded(106, 108, 111, 103, 4, 1, 0, 3, 0, 0, 0, 7, 0, 0, 1, 2)},
	} {
		if good, got := c.kind.decode(c.b); good || value(got) != value(c.kind.zero) {
			t.Errorf("%s: a %s that tells %v", name, c.kind.name, got)
		}
	}
}

// Byte 4 of 0, 1, 4 and 5 and byte 5 of 1, in blocks of each kind.
func TestHeaderBytes(t *testing.T) {
	things := []any{
		impl.JSuper{Log: 16, Start: 3, Seq: 258}, impl.Descriptor{Seq: 7, Tags: []impl.Tag{{Block: 30}}},
		impl.Revoke{Seq: 7, Blocks: []int64{30}}, impl.Commit{Seq: 7, Count: 3, Sum: 258},
	}
	for i, k := range journalKinds() {
		b := k.encode(things[i])
		for x := range 256 {
			other := slices.Clone(b)
			other[4] = byte(x)
			if good, _ := k.decode(other); good != (int64(x) == k.kind) {
				t.Errorf("%s with byte 4 of %d: %v", k.name, x, good)
			}
			other = slices.Clone(b)
			other[5] = byte(x)
			if good, _ := k.decode(other); good != (x == 0) {
				t.Errorf("%s with byte 5 of %d: %v", k.name, x, good)
			}
			if impl.BlockKind(other) != k.kind {
				t.Errorf("%s with byte 5 of %d: BlockKind looks at it", k.name, x)
			}
		}
	}
}

// Every byte behind what a block tells is 0, whatever the block tells.
func TestZerosBehind(t *testing.T) {
	for n := 1; n <= 26; n++ {
		for _, k := range journalKinds() {
			var thing any
			end := 16
			switch k.kind {
			case 1:
				thing, end = impl.JSuper{Log: 20, Start: 1, Seq: int64(n)}, 14
			case 2:
				thing, end = impl.Descriptor{Seq: 1, Tags: asTags(runOf(5, n))}, 12+3*n
			case 3:
				thing, end = impl.Revoke{Seq: 1, Blocks: runOf(5, n)}, 12+2*n
			case 4:
				thing = impl.Commit{Seq: 1, Count: int64(n), Sum: 0}
			}
			if !k.valid(thing) {
				continue
			}
			b := k.encode(thing)
			last := 64
			if k.kind == 1 {
				last = 60
			}
			if end < last && !bytes.Equal(b[end:last], make([]byte, last-end)) {
				t.Errorf("%s: no zeros from byte %d on: %v", k.name, end, b)
			}
			for at := end; at < last; at++ {
				other := slices.Clone(b)
				other[at] = 1
				if k.kind == 1 {
					copy(other[60:], plainNumber(plainCrcOn(0, other[:60]), 4))
				}
				if good, _ := k.decode(other); good {
					t.Errorf("%s of %d: a 1 at byte %d is taken", k.name, n, at)
				}
			}
		}
	}
}
