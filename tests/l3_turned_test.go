package tests

import (
	"bytes"
	"math/rand"
	"slices"
	"testing"

	"loop.example/s01525/impl"
)

// turnedThings are valid things of a kind, those at the edges first.
func turnedThings(k journalKind, draw *rand.Rand) []any {
	var things []any
	switch k.kind {
	case 1:
		things = []any{impl.JSuper{Log: 16, Start: 0, Seq: 1}, impl.JSuper{Log: 16, Start: 16, Seq: 2}, impl.JSuper{Log: 512, Start: 512, Seq: 4294967295}}
	case 2:
		things = []any{
			impl.Descriptor{Seq: 1, Tags: asTags([]int64{0})}, impl.Descriptor{Seq: 1, Tags: asTags([]int64{2047})},
			impl.Descriptor{Seq: 4294967295, Tags: asTags(runOf(0, 17))}, impl.Descriptor{Seq: 256, Tags: asTags(runOf(2031, 17))},
			impl.Descriptor{Seq: 7, Tags: asTags(runOf(250, 16))},
		}
	case 3:
		things = []any{
			impl.Revoke{Seq: 1, Blocks: []int64{0}}, impl.Revoke{Seq: 1, Blocks: []int64{2047}},
			impl.Revoke{Seq: 4294967295, Blocks: runOf(0, 26)}, impl.Revoke{Seq: 256, Blocks: runOf(2022, 26)},
			impl.Revoke{Seq: 7, Blocks: runOf(250, 25)},
		}
	case 4:
		things = []any{impl.Commit{Seq: 1, Count: 1, Sum: 0}, impl.Commit{Seq: 4294967295, Count: 511, Sum: 4294967295}, impl.Commit{Seq: 256, Count: 256, Sum: 1}}
	}
	for range 4 {
		things = append(things, k.drawn(draw))
	}
	return things
}

// Promise 4: with one byte turned, to each other value, at each of the 64 places, a block is decoded to nothing
// or to what encodes to just these bytes.
func TestJournalOneByteTurned(t *testing.T) {
	t.Parallel()
	draw := rand.New(rand.NewSource(41))
	for _, k := range journalKinds() {
		taken := 0
		for _, thing := range turnedThings(k, draw) {
			b := k.plain(thing)
			for at := range 64 {
				for x := 1; x < 256; x++ {
					other := slices.Clone(b)
					other[at] ^= byte(x)
					if checkBlock(t, k, other) {
						taken++
						if _, got := k.decode(other); value(got) == value(thing) {
							t.Fatalf("%s %v: byte %d turned is not seen", k.name, thing, at)
						}
					}
				}
			}
		}
		// The sum of a superblock tells each turned byte; the other kinds carry none of their own.
		if (taken == 0) != (k.kind == 1) {
			t.Errorf("%s: %d turned blocks were taken", k.name, taken)
		}
	}
}

// With a sum that fits, a superblock's other bytes count one by one.
func TestSuperTurnedWithItsSum(t *testing.T) {
	t.Parallel()
	draw := rand.New(rand.NewSource(42))
	k := superKind()
	taken := 0
	for _, thing := range turnedThings(k, draw) {
		b := k.plain(thing)
		for at := range 60 {
			for x := 1; x < 256; x++ {
				other := slices.Clone(b)
				other[at] ^= byte(x)
				copy(other[60:], plainNumber(plainCrcOn(0, other[:60]), 4))
				if checkBlock(t, k, other) {
					taken++
				}
			}
		}
	}
	if taken == 0 {
		t.Error("none was taken")
	}
}

// Two or more bytes at once, and blocks that are drawn but for their header.
func TestJournalDrawnBytes(t *testing.T) {
	t.Parallel()
	draw := rand.New(rand.NewSource(43))
	for _, k := range journalKinds() {
		taken := 0
		for range 8000 {
			b := k.plain(k.drawn(draw))
			for range 1 + draw.Intn(3) {
				b[draw.Intn(64)] = byte(draw.Intn(8))
			}
			if k.kind == 1 && draw.Intn(2) == 0 {
				copy(b[60:], plainNumber(plainCrcOn(0, b[:60]), 4))
			}
			if checkBlock(t, k, b) {
				taken++
			}
			for at := 4; at < 64; at++ {
				b[at] = byte(draw.Intn(256))
			}
			b[4], b[5], b[6], b[7] = byte(k.kind), 0, 0, byte(draw.Intn(30))
			checkBlock(t, k, b)
		}
		if taken == 0 {
			t.Errorf("%s: no block was taken", k.name)
		}
	}
}

// Two things that differ never have the same bytes.
func TestJournalBytesTellThings(t *testing.T) {
	draw := rand.New(rand.NewSource(44))
	seen := map[string]string{}
	for _, k := range journalKinds() {
		for range 2000 {
			thing := k.drawn(draw)
			b := string(k.encode(thing))
			told := k.name + value(thing)
			if was, ok := seen[b]; ok && was != told {
				t.Fatal("the same bytes:", was, told)
			}
			seen[b] = told
		}
	}
	if len(seen) < 7000 {
		t.Error("too few things were drawn:", len(seen))
	}
	if bytes.Equal(impl.EncodeDescriptor(impl.Descriptor{Seq: 1, Tags: []impl.Tag{{Block: 5}}}), impl.EncodeDescriptor(impl.Descriptor{Seq: 1, Tags: []impl.Tag{{Block: 5, Escaped: true}}})) {
		t.Error("escaped or not")
	}
}
