package tests

import (
	"math"
	"math/rand"

	"loop.example/s01525/impl"
)

// plainPlaces lays one thing behind the other, block by block; false if the geometry is not valid.
func plainPlaces(g impl.Geometry) (impl.Places, bool) {
	if g.Log < 16 || g.Log > 512 || g.Inodes < 1 || g.Inodes > 256 || g.Blocks < 1 || g.Blocks > 2048 {
		return impl.Places{}, false
	}
	var p impl.Places
	next := 2 + g.Log
	p.InodeMap = next
	next++
	p.BlockMap = next
	for mapped := int64(0); mapped < g.Blocks; mapped += 512 {
		p.MapBlocks++
		next++
	}
	p.Table = next
	for held := int64(0); held < g.Inodes; held += 2 {
		p.TableBlocks++
		next++
	}
	p.Data = next
	for ; next < g.Blocks; next++ {
		p.DataBlocks++
	}
	if p.DataBlocks == 0 {
		return impl.Places{}, false
	}
	return p, true
}

// geometryKind is the file system's superblock, told like the blocks of the journal.
func geometryKind() journalKind {
	return journalKind{
		name: "file system's superblock", kind: 0, zero: impl.Geometry{},
		encode: func(thing any) []byte { return impl.EncodeSuper(thing.(impl.Geometry)) },
		decode: func(b []byte) (bool, any) { r := impl.DecodeSuper(b); return r.Good, r.Geometry },
		plain: func(thing any) []byte {
			g := thing.(impl.Geometry)
			b := []byte{102, 115, 121, 115, 1, 0}
			for _, v := range []int64{g.Blocks, g.Log, g.Inodes} {
				if v < 0 || v > 65535 {
					return nil
				}
				b = append(b, byte(v/256), byte(v%256))
			}
			return withSum(padded(b...))
		},
		parse: func(b []byte) any {
			return impl.Geometry{Blocks: parsed(b, 6, 2), Log: parsed(b, 8, 2), Inodes: parsed(b, 10, 2)}
		},
		valid: func(thing any) bool { _, ok := plainPlaces(thing.(impl.Geometry)); return ok },
		drawn: func(draw *rand.Rand) any { return drawnGeometry(draw) },
	}
}

// withSum sets a superblock's sum right.
func withSum(b []byte) []byte {
	copy(b[60:], plainNumber(plainCrcOn(0, b[:60]), 4))
	return b
}

// drawnGeometry is any valid one; every fourth one has few data blocks.
func drawnGeometry(draw *rand.Rand) impl.Geometry {
	for {
		g := impl.Geometry{Blocks: 1 + draw.Int63n(2048), Log: 16 + draw.Int63n(497), Inodes: 1 + draw.Int63n(256)}
		if draw.Intn(4) == 0 {
			g.Blocks = min(2048, 5+g.Log+g.Inodes/2+draw.Int63n(6))
		}
		if _, ok := plainPlaces(g); ok {
			return g
		}
	}
}

// leastBlocks is how few blocks a valid geometry with this log and these inodes has.
func leastBlocks(log, inodes int64) int64 {
	for blocks := int64(1); ; blocks++ {
		if _, ok := plainPlaces(impl.Geometry{Blocks: blocks, Log: log, Inodes: inodes}); ok {
			return blocks
		}
	}
}

// someGeometries are valid ones, those at the edges first: one data block or two, maps of one block and of several,
// odd and even numbers of inodes.
func someGeometries() []impl.Geometry {
	var list []impl.Geometry
	for _, log := range []int64{16, 17, 100, 511, 512} {
		for _, inodes := range []int64{1, 2, 3, 7, 8, 9, 15, 16, 17, 255, 256} {
			least := leastBlocks(log, inodes)
			for _, blocks := range []int64{least, least + 1, 511, 512, 513, 1023, 1024, 1025, 1536, 1537, 2047, 2048} {
				if blocks >= least {
					list = append(list, impl.Geometry{Blocks: blocks, Log: log, Inodes: inodes})
				}
			}
		}
	}
	draw := rand.New(rand.NewSource(701))
	for range 200 {
		list = append(list, drawnGeometry(draw))
	}
	return list
}

// edgeNumbers are the bounds of the fields, and numbers that are far from all of them.
func edgeNumbers(near ...int64) []int64 {
	return append(near, math.MinInt64, math.MinInt64+1, -65520, -1, 0, 1, 65536, 65552, 1<<32+16, math.MaxInt64-1, math.MaxInt64)
}

// edgeGeometries have each field at and around its bounds, with all of the others.
func edgeGeometries() []impl.Geometry {
	var list []impl.Geometry
	for _, log := range edgeNumbers(15, 16, 17, 511, 512, 513) {
		for _, inodes := range edgeNumbers(2, 8, 255, 256, 257) {
			for _, blocks := range edgeNumbers(2, 20, 21, 22, 25, 515, 650, 2047, 2048, 2049) {
				list = append(list, impl.Geometry{Blocks: blocks, Log: log, Inodes: inodes})
			}
		}
	}
	return list
}

// plainMap is a map of bits of so many blocks in which those are on that are asked for.
func plainMap(blocks int64, on func(i int64) bool) []byte {
	b := make([]byte, blocks*64)
	for i := range blocks * 512 {
		if on(i) {
			b[i/8] += []byte{1, 2, 4, 8, 16, 32, 64, 128}[i%8]
		}
	}
	return b
}

// plainMkfs are the bytes of a new disk, one thing behind the other.
func plainMkfs(g impl.Geometry) []byte {
	p, ok := plainPlaces(g)
	if !ok {
		return nil
	}
	d := geometryKind().plain(g)
	d = append(d, superKind().plain(impl.JSuper{Log: g.Log, Start: 0, Seq: 1})...)
	d = append(d, make([]byte, g.Log*64)...)
	d = append(d, plainMap(1, func(i int64) bool { return i == 0 || i >= g.Inodes })...)
	d = append(d, plainMap(p.MapBlocks, func(b int64) bool { return b < p.Data || b >= g.Blocks })...)
	d = append(d, 2, 1)
	return append(d, make([]byte, g.Blocks*64-int64(len(d)))...)
}
