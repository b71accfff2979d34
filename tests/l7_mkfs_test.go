package tests

import (
	"bytes"
	"math/rand"
	"testing"

	"loop.example/s01525/impl"
)

// checkMkfs holds a new disk against 7.3, byte by byte, and its journal against an empty one.
func checkMkfs(t *testing.T, g impl.Geometry) {
	t.Helper()
	d := impl.Mkfs(g)
	want := plainMkfs(g)
	if len(d.Durable) != len(want) || len(d.Pending) != 0 {
		t.Fatalf("%v: %d bytes, %d writes pending, not %d bytes", g, len(d.Durable), len(d.Pending), len(want))
	}
	if want == nil {
		return
	}
	for b := range g.Blocks {
		if got, block := d.Durable[b*64:b*64+64], want[b*64:b*64+64]; !bytes.Equal(got, block) {
			t.Fatalf("%v: block %d is\n%v, not\n%v", g, b, got, block)
		}
	}
	super := impl.JSuper{Log: g.Log, Start: 0, Seq: 1}
	if r := impl.DecodeJSuper(d.Durable[64:128]); !impl.ValidDisk(d) || !r.Good || r.Super != super {
		t.Errorf("%v: the disk is not valid, or has the journal %v", g, r)
	}
	if r := impl.DecodeSuper(d.Durable[:64]); !r.Good || r.Geometry != g {
		t.Errorf("%v: the disk says that it is %v", g, r)
	}
	if f := impl.ScanLog(d); value(f) != value(impl.Found{Super: super}) {
		t.Errorf("%v: found are %v", g, f)
	}
	if r := impl.Recover(d, -1); len(impl.RecoverOps(d)) != 0 || value(r) != value(impl.Recovered{Disk: d}) {
		t.Errorf("%v: a recovery does something", g)
	}
}

// Promise 12, as far as this layer goes.
func TestMkfsOfGeometries(t *testing.T) {
	t.Parallel()
	for _, g := range someGeometries() {
		checkMkfs(t, g)
	}
}

// What is no geometry makes no disk.
func TestMkfsEdges(t *testing.T) {
	for _, g := range edgeGeometries() {
		if _, ok := plainPlaces(g); ok {
			checkMkfs(t, g)
		} else if d := impl.Mkfs(g); !isZero(d) || len(d.Pending) != 0 {
			t.Errorf("%v: a disk of %d bytes", g, len(d.Durable))
		}
	}
}

// Every number of inodes, so that the map's first bit that is off is at each place of a byte; one, two and no data blocks.
func TestMkfsOfAllInodes(t *testing.T) {
	for inodes := int64(0); inodes <= 257; inodes++ {
		checkMkfs(t, impl.Geometry{Blocks: 150 + inodes, Log: 16, Inodes: inodes})
	}
	for blocks := int64(20); blocks < 60; blocks++ {
		checkMkfs(t, impl.Geometry{Blocks: blocks, Log: 16, Inodes: 8})
	}
	for _, middle := range []int64{512, 1024, 1536} {
		for blocks := middle - 9; blocks < middle+10; blocks++ {
			checkMkfs(t, impl.Geometry{Blocks: blocks, Log: 30, Inodes: 5})
		}
	}
}

// The example of 7.3, written down by hand.
func TestMkfsOfTheDocument(t *testing.T) {
	d := impl.Mkfs(impl.Geometry{Blocks: 60, Log: 16, Inodes: 8})
	block := func(b int) []byte { return d.Durable[b*64 : b*64+64] }
	inodes := append([]byte{1}, bytes.Repeat([]byte{255}, 63)...)
	blocks := append([]byte{255, 255, 255, 0, 0, 0, 0, 240}, bytes.Repeat([]byte{255}, 56)...)
	root := padded(2, 1)
	for b := range 60 {
		want := make([]byte, 64)
		switch b {
		case 0, 1:
			continue
		case 18:
			want = inodes
		case 19:
			want = blocks
		case 20:
			want = root
		}
		if !bytes.Equal(block(b), want) {
			t.Errorf("block %d is %v, not %v", b, block(b), want)
		}
	}
}

// The maps of a new disk, asked by the functions of chapter 8: what is free are all inodes but the root, and the data.
func TestMkfsMapsByBits(t *testing.T) {
	for _, g := range someGeometries() {
		p := impl.Layout(g)
		d := impl.Mkfs(g)
		inodes := d.Durable[p.InodeMap*64 : p.BlockMap*64]
		blocks := d.Durable[p.BlockMap*64 : p.Table*64]
		var free []impl.FreeRun
		if g.Inodes > 1 {
			free = append(free, impl.FreeRun{At: 1, Len: g.Inodes - 1})
		}
		if got := impl.BitRuns(inodes, 0, 512); value(got) != value(free) {
			t.Errorf("%v: free inodes are %v", g, got)
		}
		data := []impl.FreeRun{{At: p.Data, Len: p.DataBlocks}}
		if got := impl.BitRuns(blocks, 0, p.MapBlocks*512); value(got) != value(data) {
			t.Errorf("%v: free blocks are %v", g, got)
		}
		if impl.BitCount(blocks, 0, g.Blocks) != p.Data || impl.BitFirst(blocks, 0, g.Blocks) != p.Data {
			t.Errorf("%v: %d blocks are taken", g, impl.BitCount(blocks, 0, g.Blocks))
		}
	}
}

// newSystem is a course on a new disk.
func newSystem(g impl.Geometry) *course {
	return &course{disk: impl.Mkfs(g), log: impl.Log{Size: g.Log, Seq: 1, Head: 1}, super: impl.JSuper{Log: g.Log, Seq: 1}}
}

// Promises 6 and 7 on disks from Mkfs: what was taken is found, and one that is torn is told by its bytes.
func TestMkfsTakesTransactions(t *testing.T) {
	t.Parallel()
	draw := rand.New(rand.NewSource(721))
	for _, s := range []struct {
		g          impl.Geometry
		most, many int
	}{
		{impl.Geometry{Blocks: 22, Log: 16, Inodes: 1}, 4, 50}, {impl.Geometry{Blocks: 60, Log: 16, Inodes: 8}, 13, 50}, {impl.Geometry{Blocks: 513, Log: 31, Inodes: 9}, 20, 25},
		{impl.Geometry{Blocks: 514, Log: 507, Inodes: 2}, 8, 10}, {impl.Geometry{Blocks: 2048, Log: 512, Inodes: 256}, 128, 4},
	} {
		var n torn
		c := newSystem(s.g)
		c.scanned(t)
		c.pass(t)
		for range s.many {
			x := c.drawOn(t, draw, s.most)
			if impl.TxnLength(x) < 20 {
				c.tear(t, draw, x, &n)
			}
			c.take(t, x)
			c.scanned(t)
		}
		if s.g.Log == 16 && (c.rounds < 4 || n.found < s.many || n.lost < 10*s.many) {
			t.Error(s.g, "went", c.rounds, "times round; torn ones found", n.found, "lost", n.lost)
		}
		if !bytes.Equal(c.disk.Durable[:64], impl.EncodeSuper(s.g)) {
			t.Error(s.g, "has lost its superblock")
		}
	}
}

// Promise 10 on disks from Mkfs: handles that change any block behind the log, stopped at each operation.
func TestMkfsUnderHandles(t *testing.T) {
	t.Parallel()
	draw := rand.New(rand.NewSource(722))
	for _, s := range []struct {
		g     impl.Geometry
		calls int
	}{{impl.Geometry{Blocks: 22, Log: 16, Inodes: 1}, 400}, {impl.Geometry{Blocks: 60, Log: 16, Inodes: 8}, 400}, {impl.Geometry{Blocks: 90, Log: 41, Inodes: 31}, 200}} {
		var n crashed
		for _, frees := range []bool{false, true} {
			w := callDraw{draw: draw, size: s.g.Log, blocks: s.g.Blocks, frees: frees}
			crashEverywhere(t, draw, impl.Mkfs(s.g), w.calls(s.calls), &n)
		}
		if n.there < 10 || n.gone < 100 || s.g.Log == 16 && (n.pressed == 0 || n.rounds == 0) {
			t.Error(s.g, n)
		}
	}
}
