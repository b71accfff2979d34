package tests

import (
	"testing"

	"loop.example/s01525/impl"
)

func TestLayoutConstants(t *testing.T) {
	if impl.MaxInodes != 256 || impl.Version != 1 || impl.MaxBits != 16384 {
		t.Error(impl.MaxInodes, impl.Version, impl.MaxBits)
	}
}

// checkLayout holds ValidGeometry and Layout against the places, and tells whether the geometry is valid.
func checkLayout(t *testing.T, g impl.Geometry) bool {
	t.Helper()
	want, valid := plainPlaces(g)
	if impl.ValidGeometry(g) != valid {
		t.Errorf("ValidGeometry of %v is %v", g, !valid)
	}
	if got := impl.Layout(g); got != want {
		t.Errorf("Layout of %v: %v, not %v", g, got, want)
	}
	return valid
}

// Written down by hand: the example of 7.3, the least, the largest, and a map that just needs one block more.
func TestLayoutByHand(t *testing.T) {
	for _, c := range []struct {
		g    impl.Geometry
		want impl.Places
	}{
		{impl.Geometry{Blocks: 60, Log: 16, Inodes: 8}, impl.Places{InodeMap: 18, BlockMap: 19, MapBlocks: 1, Table: 20, TableBlocks: 4, Data: 24, DataBlocks: 36}},
		{impl.Geometry{Blocks: 22, Log: 16, Inodes: 1}, impl.Places{InodeMap: 18, BlockMap: 19, MapBlocks: 1, Table: 20, TableBlocks: 1, Data: 21, DataBlocks: 1}},
		{impl.Geometry{Blocks: 2048, Log: 512, Inodes: 256}, impl.Places{InodeMap: 514, BlockMap: 515, MapBlocks: 4, Table: 519, TableBlocks: 128, Data: 647, DataBlocks: 1401}},
		{impl.Geometry{Blocks: 512, Log: 100, Inodes: 3}, impl.Places{InodeMap: 102, BlockMap: 103, MapBlocks: 1, Table: 104, TableBlocks: 2, Data: 106, DataBlocks: 406}},
		{impl.Geometry{Blocks: 513, Log: 100, Inodes: 4}, impl.Places{InodeMap: 102, BlockMap: 103, MapBlocks: 2, Table: 105, TableBlocks: 2, Data: 107, DataBlocks: 406}},
		{impl.Geometry{Blocks: 2047, Log: 17, Inodes: 255}, impl.Places{InodeMap: 19, BlockMap: 20, MapBlocks: 4, Table: 24, TableBlocks: 128, Data: 152, DataBlocks: 1895}},
	} {
		if got := impl.Layout(c.g); got != c.want || !impl.ValidGeometry(c.g) {
			t.Errorf("%v: %v, not %v", c.g, got, c.want)
		}
		checkLayout(t, c.g)
	}
}

// Each field at its bounds and beyond them, with every choice of the others.
func TestLayoutEdges(t *testing.T) {
	valid := 0
	for _, g := range edgeGeometries() {
		if checkLayout(t, g) {
			valid++
		}
	}
	if valid < 50 {
		t.Error("only", valid, "are valid")
	}
	for _, field := range []impl.Geometry{{Blocks: 1}, {Log: 1}, {Inodes: 1}} {
		for _, v := range edgeNumbers() {
			g := impl.Geometry{Blocks: 2048, Log: 512, Inodes: 256}
			switch {
			case field.Blocks == 1:
				g.Blocks = v
			case field.Log == 1:
				g.Log = v
			default:
				g.Inodes = v
			}
			if checkLayout(t, g) && v != 1 {
				t.Error(g, "is valid")
			}
		}
	}
}

// DataBlocks of 1, of 0 and below 0, for each log and some inodes; where the data would begin at block 512, the map's
// second block takes the place of the first data block.
func TestLayoutDataBlocks(t *testing.T) {
	for log := int64(15); log <= 513; log++ {
		for _, inodes := range []int64{0, 1, 2, 3, 100, 255, 256, 257} {
			if log < 16 || log > 512 || inodes < 1 || inodes > 256 {
				checkLayout(t, impl.Geometry{Blocks: 2048, Log: log, Inodes: inodes})
				continue
			}
			least := leastBlocks(log, inodes)
			for blocks := least - 3; blocks <= least+3; blocks++ {
				g := impl.Geometry{Blocks: blocks, Log: log, Inodes: inodes}
				if checkLayout(t, g) != (blocks >= least) {
					t.Fatal(g)
				}
			}
			if p := impl.Layout(impl.Geometry{Blocks: least, Log: log, Inodes: inodes}); p.DataBlocks != 1 {
				t.Error("the least disk has", p.DataBlocks, "data blocks")
			}
		}
	}
	for _, c := range []struct {
		blocks int64
		want   bool
	}{{511, false}, {512, false}, {513, false}, {514, true}} {
		if impl.ValidGeometry(impl.Geometry{Blocks: c.blocks, Log: 507, Inodes: 2}) != c.want {
			t.Error(c.blocks, "blocks: valid is", !c.want)
		}
	}
}

// Every number of blocks, one too few and one too many among them.
func TestLayoutAllBlocks(t *testing.T) {
	for _, c := range []struct{ log, inodes int64 }{{16, 1}, {16, 2}, {100, 31}, {400, 200}, {512, 256}} {
		for blocks := int64(-1); blocks <= 2050; blocks++ {
			checkLayout(t, impl.Geometry{Blocks: blocks, Log: c.log, Inodes: c.inodes})
		}
	}
	for inodes := int64(-1); inodes <= 258; inodes++ {
		checkLayout(t, impl.Geometry{Blocks: 200, Log: 16, Inodes: inodes})
	}
	for _, g := range someGeometries() {
		if !checkLayout(t, g) {
			t.Error(g, "should be valid")
		}
	}
}
