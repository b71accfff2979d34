package tests

import (
	"math"
	"testing"

	"loop.example/s01525/impl"
)

// tangled is a valid disk whose lists share memory with each other.
func tangled() impl.Disk {
	d := numbered(3)
	shared := filled(9)
	d.Pending = []impl.Write{
		{Block: 1, Data: d.Durable[:64]},
		{Block: 2, Data: shared},
		{Block: 0, Data: shared},
		{Block: 1, Data: d.Durable[32:96]},
	}
	return d
}

func pureDisks() map[string]func() impl.Disk {
	return map[string]func() impl.Disk{
		"nothing pending":  func() impl.Disk { return numbered(3) },
		"some writes":      func() impl.Disk { return withWrites(numbered(3), 1, 2, 1) },
		"a full cache":     func() impl.Disk { return withWrites(numbered(3), make([]int64, 600)...) },
		"lists that share": tangled,
		"no disk":          func() impl.Disk { return impl.Disk{} },
		"an odd length":    func() impl.Disk { return impl.Disk{Durable: make([]byte, 65)} },
		"an odd write":     func() impl.Disk { return withWrites(numbered(3), 0, 3) },
		"a write too many": func() impl.Disk { return withWrites(numbered(3), make([]int64, 601)...) },
		"a block too many": func() impl.Disk { return impl.Disk{Durable: make([]byte, 2049*64)} },
		"data of other size": func() impl.Disk {
			return impl.Disk{Durable: filled(1), Pending: []impl.Write{{Data: make([]byte, 63)}}}
		},
	}
}

func TestPureNewDisk(t *testing.T) {
	for _, n := range []int64{math.MinInt64, -1, 0, 1, 2, 2048, 2049, math.MaxInt64} {
		checkPure(t, pureCase{"NewDisk", impl.NewDisk, func() []any { return []any{n} }})
	}
	one, two := impl.NewDisk(2), impl.NewDisk(2)
	one.Durable[5] = 7
	if two.Durable[5] != 0 || impl.NewDisk(2).Durable[5] != 0 {
		t.Error("two new disks share memory")
	}
}

func TestPureLooks(t *testing.T) {
	for name, disk := range pureDisks() {
		checkPure(t, pureCase{"ValidDisk, " + name, impl.ValidDisk, func() []any { return []any{disk()} }})
		checkPure(t, pureCase{"DiskImage, " + name, impl.DiskImage, func() []any { return []any{disk()} }})
		for _, at := range []int64{-1, 0, 1, 2, 3} {
			checkPure(t, pureCase{"DiskRead, " + name, impl.DiskRead, func() []any { return []any{disk(), at} }})
		}
	}
}

func TestPureChanges(t *testing.T) {
	t.Parallel()
	for name, disk := range pureDisks() {
		checkPure(t, pureCase{"DiskFlush, " + name, impl.DiskFlush, func() []any { return []any{disk()} }})
		for _, at := range []int64{-1, 0, 2, 3} {
			for _, n := range []int{0, 63, 64, 65} {
				checkPure(t, pureCase{"DiskWrite, " + name, impl.DiskWrite, func() []any { return []any{disk(), at, make([]byte, n)} }})
			}
		}
		for _, n := range []int{0, 1, 3, 9, 600, 601} {
			checkPure(t, pureCase{"DiskCrash, " + name, impl.DiskCrash, func() []any { return []any{disk(), someKept(n)} }})
		}
	}
}

func someKept(n int) []int64 {
	keep := make([]int64, n)
	for i := range keep {
		keep[i] = int64(i%3 - 1)
	}
	return keep
}

// The data that are written may be a piece of the disk itself.
func TestPureWriteOfItsOwnMemory(t *testing.T) {
	checkPure(t, pureCase{"DiskWrite", impl.DiskWrite, func() []any {
		d := tangled()
		return []any{d, int64(2), d.Durable[64:128]}
	}})
	checkPure(t, pureCase{"DiskDo", impl.DiskDo, func() []any {
		d := tangled()
		return []any{d, []impl.Op{{Kind: impl.OpWrite, Data: d.Durable[64:128]}, {Kind: impl.OpWrite, Block: 1, Data: d.Pending[1].Data}}, int64(-1)}
	}})
}

func TestPureDo(t *testing.T) {
	t.Parallel()
	shared := filled(77)
	lists := map[string]func() []impl.Op{
		"none":             func() []impl.Op { return nil },
		"writes":           func() []impl.Op { return []impl.Op{writeOp(0, 1), writeOp(1, 2), writeOp(0, 3)} },
		"writes, flushes":  func() []impl.Op { return []impl.Op{writeOp(0, 1), flushOp(), writeOp(1, 2), flushOp(), writeOp(2, 3)} },
		"an odd one":       func() []impl.Op { return []impl.Op{writeOp(0, 1), {Kind: 9, Data: filled(4)}, writeOp(1, 2)} },
		"an odd flush":     func() []impl.Op { return []impl.Op{flushOp(), {Kind: impl.OpFlush, Data: filled(4)}} },
		"too many":         func() []impl.Op { return make([]impl.Op, 4001) },
		"data that's long": func() []impl.Op { return []impl.Op{{Kind: impl.OpWrite, Data: make([]byte, 65)}} },
	}
	for name, disk := range pureDisks() {
		for list, ops := range lists {
			for _, limit := range []int64{-1, 0, 1, 2, 100} {
				checkPure(t, pureCase{"DiskDo, " + name + ", " + list, impl.DiskDo, func() []any { return []any{disk(), ops(), limit} }})
			}
		}
	}
	got := impl.DiskDo(numbered(2), []impl.Op{{Kind: impl.OpWrite, Data: shared}, {Kind: impl.OpWrite, Block: 1, Data: shared}}, -1)
	checkApart(t, "DiskDo of data that are shared", []any{shared}, got)
}
