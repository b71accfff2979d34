package tests

import (
	"math"
	"testing"

	"loop.example/s01525/impl"
)

// oneByOne does all the operations by DiskWrite and DiskFlush.
func oneByOne(d impl.Disk, ops []impl.Op) impl.Disk {
	for _, op := range ops {
		if op.Kind == impl.OpWrite {
			d = impl.DiskWrite(d, op.Block, op.Data)
		} else {
			d = impl.DiskFlush(d)
		}
	}
	return d
}

func TestDiskDoIsWritesAndFlushes(t *testing.T) {
	for _, start := range []impl.Disk{numbered(3), withWrites(numbered(3), 2, 0)} {
		for n := range 5 {
			eachChoice(n, 4, func(choice []int64) {
				var ops []impl.Op
				for i, c := range choice {
					if c == 3 {
						ops = append(ops, flushOp())
					} else {
						ops = append(ops, writeOp(c, byte(i+40)))
					}
				}
				want := oneByOne(start, ops)
				if !sameDisk(impl.DiskDo(start, ops, -1), want) {
					t.Fatal("operations", choice)
				}
				for cut := range n + 1 {
					checkCut(t, start, ops, cut)
				}
			})
		}
	}
}

// checkCut holds the operations in two parts, and under a limit, against those at once.
func checkCut(t *testing.T, start impl.Disk, ops []impl.Op, cut int) {
	t.Helper()
	whole := impl.DiskDo(start, ops, -1)
	first := impl.DiskDo(start, ops[:cut], -1)
	if !sameDisk(impl.DiskDo(first, ops[cut:], -1), whole) {
		t.Fatal("in two parts, cut at", cut)
	}
	if !sameDisk(impl.DiskDo(start, ops, int64(cut)), first) {
		t.Fatal("with a limit of", cut)
	}
}

func longList() []impl.Op {
	var ops []impl.Op
	for i := range 40 {
		if i%7 == 6 {
			ops = append(ops, flushOp())
		} else {
			ops = append(ops, writeOp(int64(i*i%5), byte(i+1)))
		}
	}
	return ops
}

func TestDiskDoInTwoParts(t *testing.T) {
	ops := longList()
	start := withWrites(numbered(5), 4, 4, 1)
	if !sameDisk(impl.DiskDo(start, ops, -1), oneByOne(start, ops)) {
		t.Error("a long list")
	}
	for cut := range len(ops) + 1 {
		checkCut(t, start, ops, cut)
	}
}

// A list that is refused is refused in two parts as well, wherever the cut is.
func TestDiskDoInTwoPartsRefused(t *testing.T) {
	start := numbered(5)
	for bad := range 12 {
		ops := longList()[:12]
		ops[bad].Block = 5
		if !isZero(impl.DiskDo(start, ops, -1)) {
			t.Error("operation", bad, "is refused")
		}
		for cut := range len(ops) + 1 {
			if !isZero(impl.DiskDo(impl.DiskDo(start, ops[:cut], -1), ops[cut:], -1)) {
				t.Error("operation", bad, "is refused, cut at", cut)
			}
		}
	}
}

func TestDiskDoLimits(t *testing.T) {
	ops := []impl.Op{writeOp(0, 1), flushOp(), writeOp(1, 2), writeOp(0, 3), flushOp()}
	start := withWrites(numbered(2), 1)
	for _, limit := range []int64{-1, -2, math.MinInt64, 5, 6, 4000, 4001, math.MaxInt64, 1 << 32} {
		if !sameDisk(impl.DiskDo(start, ops, limit), oneByOne(start, ops)) {
			t.Error("all of them with a limit of", limit)
		}
	}
	for limit := range int64(5) {
		if !sameDisk(impl.DiskDo(start, ops, limit), oneByOne(start, ops[:limit])) {
			t.Error("with a limit of", limit)
		}
	}
	for _, limit := range []int64{-1, 0, 1} {
		if !sameDisk(impl.DiskDo(start, nil, limit), start) || !sameDisk(impl.DiskDo(start, []impl.Op{}, limit), start) {
			t.Error("no operations with a limit of", limit)
		}
	}
}

func oddOps() map[string]impl.Op {
	return map[string]impl.Op{
		"kind 0":                        {},
		"kind 0 with a block's data":    {Data: filled(1)},
		"kind 3":                        {Kind: 3, Data: filled(1)},
		"kind -1":                       {Kind: -1},
		"the least kind":                {Kind: math.MinInt64},
		"the greatest kind":             {Kind: math.MaxInt64},
		"a kind that is 1 in 32 bits":   {Kind: 1<<32 + 1, Data: filled(1)},
		"a flush of block 1":            {Kind: impl.OpFlush, Block: 1},
		"a flush of block -1":           {Kind: impl.OpFlush, Block: -1},
		"a flush with a byte":           {Kind: impl.OpFlush, Data: []byte{0}},
		"a flush with a block's data":   {Kind: impl.OpFlush, Data: filled(0)},
		"a write of block -1":           writeOp(-1, 1),
		"a write behind the last block": writeOp(3, 1),
		"a write far behind it":         writeOp(math.MaxInt64, 1),
		"a write of no data":            {Kind: impl.OpWrite},
		"a write of 63 bytes":           {Kind: impl.OpWrite, Data: make([]byte, 63)},
		"a write of 65 bytes":           {Kind: impl.OpWrite, Data: make([]byte, 65)},
	}
}

func TestDiskDoOddOperations(t *testing.T) {
	start := withWrites(numbered(3), 1)
	for name, odd := range oddOps() {
		for at := range int64(4) {
			ops := []impl.Op{writeOp(0, 1), flushOp(), writeOp(2, 3)}
			done := oneByOne(start, ops[:at])
			ops = append(ops[:at:at], append([]impl.Op{odd}, ops[at:]...)...)
			if !sameDisk(impl.DiskDo(start, ops, at), done) {
				t.Error(name, "just beyond the limit, at", at)
			}
			for _, limit := range []int64{at + 1, -1, 100} {
				if !isZero(impl.DiskDo(start, ops, limit)) {
					t.Error(name, "at", at, "with a limit of", limit)
				}
			}
		}
	}
}

func TestDiskDoFlushFields(t *testing.T) {
	for _, op := range []impl.Op{{Kind: impl.OpFlush}, {Kind: impl.OpFlush, Data: []byte{}}} {
		start := withWrites(numbered(2), 1)
		if !sameDisk(impl.DiskDo(start, []impl.Op{op}, -1), impl.DiskFlush(start)) {
			t.Error("a flush has block 0 and no data")
		}
	}
}

func TestDiskDoManyOperations(t *testing.T) {
	t.Parallel()
	many := make([]impl.Op, 4001)
	for i := range many {
		many[i] = writeOp(int64(i%2), byte(i))
		if i%500 == 499 {
			many[i] = flushOp()
		}
	}
	start := numbered(2)
	if !sameDisk(impl.DiskDo(start, many[:4000], -1), oneByOne(start, many[:4000])) || !sameDisk(impl.DiskDo(start, many[:3999], -1), oneByOne(start, many[:3999])) {
		t.Error("4000 operations may be there")
	}
	for _, limit := range []int64{-1, 0, 1, 4000, 4001} {
		if !isZero(impl.DiskDo(start, many, limit)) {
			t.Error("4001 may not, with a limit of", limit)
		}
	}
	if !sameDisk(impl.DiskDo(start, many[:4000], 0), start) {
		t.Error("none of 4000")
	}
}

func TestDiskDoFullCache(t *testing.T) {
	var ops []impl.Op
	for i := range 601 {
		ops = append(ops, writeOp(0, byte(i)))
	}
	for _, n := range []int{599, 600} {
		if d := impl.DiskDo(numbered(1), ops[:n], -1); len(d.Pending) != n {
			t.Error(n, "writes may be pending")
		}
	}
	if !isZero(impl.DiskDo(numbered(1), ops, -1)) || !isZero(impl.DiskDo(numbered(1), ops, 601)) {
		t.Error("601 may not")
	}
	if d := impl.DiskDo(numbered(1), ops, 600); len(d.Pending) != 600 {
		t.Error("the write too many is beyond the limit")
	}
	full := withWrites(numbered(1), make([]int64, 600)...)
	if !isZero(impl.DiskDo(full, ops[:1], -1)) || !sameDisk(impl.DiskDo(full, ops[:1], 0), full) || !sameDisk(impl.DiskDo(full, nil, -1), full) {
		t.Error("a disk that is full already")
	}
	flushed := append([]impl.Op{flushOp()}, ops[:600]...)
	if d := impl.DiskDo(full, flushed, -1); len(d.Pending) != 600 || d.Durable[0] != 600%256 {
		t.Error("a flush makes room")
	}
}
