package tests

import (
	"bytes"
	"math/rand"
	"slices"
	"testing"

	"loop.example/s01525/impl"
)

// Byte by byte: every field stands where the document says, and the sum is that of the bytes ahead of it.
func TestSystemSuperByHand(t *testing.T) {
	for _, c := range []struct {
		g    impl.Geometry
		want []byte
	}{
		{impl.Geometry{Blocks: 60, Log: 16, Inodes: 8}, []byte{102, 115, 121, 115, 1, 0, 0, 60, 0, 16, 0, 8}},
		{impl.Geometry{Blocks: 22, Log: 16, Inodes: 1}, []byte{102, 115, 121, 115, 1, 0, 0, 22, 0, 16, 0, 1}},
		{impl.Geometry{Blocks: 2048, Log: 512, Inodes: 256}, []byte{102, 115, 121, 115, 1, 0, 8, 0, 2, 0, 1, 0}},
		{impl.Geometry{Blocks: 2047, Log: 511, Inodes: 255}, []byte{102, 115, 121, 115, 1, 0, 7, 255, 1, 255, 0, 255}},
		{impl.Geometry{Blocks: 772, Log: 259, Inodes: 131}, []byte{102, 115, 121, 115, 1, 0, 3, 4, 1, 3, 0, 131}},
	} {
		want := withSum(padded(c.want...))
		if got := impl.EncodeSuper(c.g); !bytes.Equal(got, want) {
			t.Errorf("%v: encoded as\n%v, not\n%v", c.g, got, want)
		}
		if got := impl.DecodeSuper(want); got != (impl.SuperResult{Good: true, Geometry: c.g}) {
			t.Errorf("%v: decoded as %v", c.g, got)
		}
	}
}

// Promise 4: each geometry, valid or not, there and back.
func TestSystemSuperThereAndBack(t *testing.T) {
	k := geometryKind()
	for _, g := range append(someGeometries(), edgeGeometries()...) {
		checkThing(t, k, g)
	}
	draw := rand.New(rand.NewSource(711))
	for range 3000 {
		checkThing(t, k, drawnGeometry(draw))
		checkThing(t, k, impl.Geometry{Blocks: draw.Int63n(2200), Log: draw.Int63n(600), Inodes: draw.Int63n(300)})
	}
}

// turnedGeometries are few, with edges among them.
func turnedGeometries() []impl.Geometry {
	draw := rand.New(rand.NewSource(712))
	return []impl.Geometry{
		{Blocks: 22, Log: 16, Inodes: 1}, {Blocks: 60, Log: 16, Inodes: 8}, {Blocks: 2048, Log: 512, Inodes: 256},
		{Blocks: 513, Log: 256, Inodes: 255}, {Blocks: 1024, Log: 17, Inodes: 2}, drawnGeometry(draw), drawnGeometry(draw), drawnGeometry(draw),
	}
}

// Promise 4: with one byte turned to each other value the sum does not fit any more; set right again, it is taken only
// as the superblock of another valid geometry.
func TestSystemSuperTurned(t *testing.T) {
	t.Parallel()
	k := geometryKind()
	taken := map[int]int{}
	for _, g := range turnedGeometries() {
		b := k.plain(g)
		for at := range 64 {
			for x := 1; x < 256; x++ {
				other := slices.Clone(b)
				other[at] ^= byte(x)
				if checkBlock(t, k, other) {
					t.Errorf("%v: byte %d turned is not seen", g, at)
				}
				if at < 60 && checkBlock(t, k, withSum(other)) {
					taken[at]++
				}
			}
		}
	}
	for at, n := range taken {
		if at < 6 || at > 11 {
			t.Error(n, "blocks with byte", at, "turned were taken")
		}
	}
	for at := 6; at < 12; at++ {
		if at != 10 && taken[at] == 0 {
			t.Error("no block with byte", at, "turned was taken")
		}
	}
}

// Several bytes at once, with and without a sum that fits, and drawn geometries that may not be valid.
func TestSystemSuperDrawnBytes(t *testing.T) {
	draw := rand.New(rand.NewSource(713))
	k := geometryKind()
	taken, refused := 0, 0
	for range 20000 {
		b := k.plain(drawnGeometry(draw))
		switch draw.Intn(3) {
		case 0:
			b[draw.Intn(64)] = byte(draw.Intn(4))
			b[draw.Intn(12)] = byte(draw.Intn(256))
		case 1:
			for at := 6; at < 12; at++ {
				b[at] = byte(draw.Intn(256) >> (draw.Intn(2) * 6))
			}
		case 2:
			for at := 6; at < 12; at += 2 {
				b[at] = byte(draw.Intn(3))
			}
		}
		if draw.Intn(4) > 0 {
			withSum(b)
		}
		if checkBlock(t, k, b) {
			taken++
		} else {
			refused++
		}
	}
	if taken < 500 || refused < 5000 {
		t.Error(taken, "taken,", refused, "refused")
	}
}

// A geometry that is not valid, written down with a sum that fits, is no superblock.
func TestSystemSuperOfNoGeometry(t *testing.T) {
	k := geometryKind()
	for _, g := range []impl.Geometry{
		{}, {Blocks: 21, Log: 16, Inodes: 1}, {Blocks: 60, Log: 15, Inodes: 8}, {Blocks: 2048, Log: 513, Inodes: 8}, {Blocks: 60, Log: 16},
		{Blocks: 2048, Log: 16, Inodes: 257}, {Blocks: 2049, Log: 16, Inodes: 8}, {Log: 16, Inodes: 8}, {Blocks: 65535, Log: 65535, Inodes: 65535}, {Blocks: 513, Log: 507, Inodes: 2},
	} {
		b := k.plain(g)
		if got := impl.DecodeSuper(b); got != (impl.SuperResult{}) {
			t.Errorf("%v is decoded as %v", g, got)
		}
		if got := impl.EncodeSuper(g); len(got) != 0 {
			t.Errorf("%v is encoded as %v", g, got)
		}
	}
}

// 63, 65 and 0 bytes, and others, are no superblock, whatever they begin or end with.
func TestSystemSuperLengths(t *testing.T) {
	b := geometryKind().plain(impl.Geometry{Blocks: 60, Log: 16, Inodes: 8})
	lists := [][]byte{nil, {}, append(slices.Clone(b), 0), append([]byte{0}, b...), slices.Concat(b, b), make([]byte, 64), drawn(64, 5), make([]byte, 1<<16)}
	for n := range 64 {
		lists = append(lists, b[:n], b[64-n:])
	}
	lists = append(lists, superKind().plain(impl.JSuper{Log: 16, Seq: 1}))
	for _, list := range lists {
		if got := impl.DecodeSuper(list); got != (impl.SuperResult{}) {
			t.Errorf("%d bytes are decoded as %v", len(list), got)
		}
	}
	if impl.DecodeJSuper(b).Good || impl.BlockKind(b) != 0 {
		t.Error("the file system's superblock is one of the journal's blocks")
	}
}
