package tests

import (
	"bytes"
	"math"
	"slices"
	"testing"

	"loop.example/s01525/impl"
)

func filled(b byte) []byte {
	return bytes.Repeat([]byte{b}, impl.BlockSize)
}

func writeOp(at int64, b byte) impl.Op {
	return impl.Op{Kind: impl.OpWrite, Block: at, Data: filled(b)}
}

func flushOp() impl.Op {
	return impl.Op{Kind: impl.OpFlush}
}

// numbered is a disk whose block b is filled with b + 100.
func numbered(blocks int) impl.Disk {
	var d impl.Disk
	for b := range blocks {
		d.Durable = append(d.Durable, filled(byte(b+100))...)
	}
	return d
}

// withWrites is the disk with writes of these blocks pending, number i filled with i + 1.
func withWrites(d impl.Disk, at ...int64) impl.Disk {
	for i, b := range at {
		d.Pending = append(d.Pending, impl.Write{Block: b, Data: filled(byte(i + 1))})
	}
	return d
}

func isZero(d impl.Disk) bool {
	return len(d.Durable) == 0 && len(d.Pending) == 0
}

func sameDisk(a, b impl.Disk) bool {
	return value(a) == value(b)
}

// plainCrash makes durable what is kept, block by block: the last kept write of each, looked for from the end.
func plainCrash(d impl.Disk, kept func(i int) bool) impl.Disk {
	out := impl.Disk{Durable: bytes.Clone(d.Durable)}
	for b := range len(d.Durable) / impl.BlockSize {
		for i := len(d.Pending) - 1; i >= 0; i-- {
			if d.Pending[i].Block == int64(b) && kept(i) {
				copy(out.Durable[b*impl.BlockSize:(b+1)*impl.BlockSize], d.Pending[i].Data)
				break
			}
		}
	}
	return out
}

func all(int) bool { return true }

// eachChoice hands every list of n numbers below base to use: a copy, so that whoever writes into it cannot keep the loop from its end.
func eachChoice(n int, base int64, use func([]int64)) {
	list := make([]int64, n)
	for {
		use(slices.Clone(list))
		i := 0
		for i < n && list[i] == base-1 {
			list[i] = 0
			i++
		}
		if i == n {
			return
		}
		list[i]++
	}
}

func TestNewDisk(t *testing.T) {
	for _, n := range []int64{1, 2, 3, 60, 2047, 2048} {
		d := impl.NewDisk(n)
		if int64(len(d.Durable)) != n*64 || len(d.Pending) != 0 || !impl.ValidDisk(d) {
			t.Error("a disk of", n, "blocks")
		}
		if len(bytes.Trim(d.Durable, "\x00")) != 0 {
			t.Error("all bytes are 0")
		}
	}
	for _, n := range []int64{0, -1, 2049, 4096, 1 << 58, math.MaxInt64, math.MinInt64} {
		if !isZero(impl.NewDisk(n)) {
			t.Error("no disk of", n, "blocks")
		}
	}
}

func TestValidDisk(t *testing.T) {
	for i, d := range validDisks() {
		if !impl.ValidDisk(d) {
			t.Error("valid disk", i)
		}
	}
	for name, d := range brokenDisks() {
		if impl.ValidDisk(d) {
			t.Error(name)
		}
	}
}

func validDisks() []impl.Disk {
	return []impl.Disk{
		numbered(1),
		{Durable: make([]byte, 64), Pending: []impl.Write{}},
		withWrites(numbered(3), 0, 1, 2, 2),
		{Durable: make([]byte, 2048*64)},
		withWrites(impl.Disk{Durable: make([]byte, 2048*64)}, 0, 2047),
		withWrites(numbered(2), make([]int64, 599)...),
		withWrites(numbered(2), make([]int64, 600)...),
	}
}

// brokenDisks are not valid, each for one reason.
func brokenDisks() map[string]impl.Disk {
	out := map[string]impl.Disk{
		"no block, nil":                {},
		"no block, the empty list":     {Durable: []byte{}},
		"no block, but a write":        withWrites(impl.Disk{}, 0),
		"one byte":                     {Durable: make([]byte, 1)},
		"a byte less than a block":     {Durable: make([]byte, 63)},
		"a byte more than a block":     {Durable: make([]byte, 65)},
		"a block and a half":           {Durable: make([]byte, 96)},
		"a byte less than 2048 blocks": {Durable: make([]byte, 2048*64-1)},
		"a byte more than 2048 blocks": {Durable: make([]byte, 2048*64+1)},
		"2049 blocks":                  {Durable: make([]byte, 2049*64)},
		"601 writes":                   withWrites(numbered(2), make([]int64, 601)...),
		"1200 writes":                  withWrites(numbered(2), make([]int64, 1200)...),
	}
	for name, at := range map[string]int64{"-1": -1, "one behind the last": 3, "the least number": math.MinInt64, "the greatest number": math.MaxInt64, "one that wraps round": 1 << 58} {
		out["a write of block "+name] = withWrites(numbered(3), at)
		out["a first write of block "+name] = withWrites(numbered(3), at, 0, 1)
		out["a last write of block "+name] = withWrites(numbered(3), 0, 1, at)
	}
	for name, n := range map[string]int{"0": 0, "1": 1, "63": 63, "65": 65, "128": 128} {
		for i, place := range []string{"first", "middle", "last"} {
			d := withWrites(numbered(3), 0, 1, 2)
			d.Pending[i].Data = make([]byte, n)
			out["a "+place+" write of "+name+" bytes"] = d
		}
	}
	return out
}

func TestBrokenDisksAreRefused(t *testing.T) {
	for name, d := range brokenDisks() {
		if len(impl.DiskRead(d, 0)) != 0 {
			t.Error("DiskRead:", name)
		}
		if !isZero(impl.DiskWrite(d, 0, filled(1))) {
			t.Error("DiskWrite:", name)
		}
		if !isZero(impl.DiskFlush(d)) {
			t.Error("DiskFlush:", name)
		}
		for _, keep := range [][]int64{nil, {1, 1, 1}, make([]int64, 600)} {
			if !isZero(impl.DiskCrash(d, keep)) {
				t.Error("DiskCrash:", name)
			}
		}
		if len(impl.DiskImage(d)) != 0 {
			t.Error("DiskImage:", name)
		}
		for _, limit := range []int64{-1, 0, 1} {
			if !isZero(impl.DiskDo(d, nil, limit)) || !isZero(impl.DiskDo(d, []impl.Op{flushOp()}, limit)) || !isZero(impl.DiskDo(d, []impl.Op{writeOp(0, 1)}, limit)) {
				t.Error("DiskDo:", name, limit)
			}
		}
	}
}

func TestReadersSeeTheYoungestWrite(t *testing.T) {
	d := withWrites(numbered(4), 1, 3, 1, 0, 1)
	for b, want := range []byte{4, 5, 102, 2} {
		if !bytes.Equal(impl.DiskRead(d, int64(b)), filled(want)) {
			t.Error("block", b)
		}
	}
	if !bytes.Equal(impl.DiskRead(numbered(4), 1), filled(101)) {
		t.Error("with nothing pending readers see what is durable")
	}
	for _, b := range []int64{-1, 4, 5, math.MinInt64, math.MaxInt64, 1 << 58, 1<<58 + 1} {
		if len(impl.DiskRead(d, b)) != 0 {
			t.Error("there is no block", b)
		}
	}
	if !bytes.Equal(impl.DiskRead(numbered(1), 0), filled(100)) || len(impl.DiskRead(numbered(1), 1)) != 0 {
		t.Error("a disk of one block")
	}
	large := impl.NewDisk(2048)
	large.Durable[2047*64] = 9
	if impl.DiskRead(large, 2047)[0] != 9 || len(impl.DiskRead(large, 2048)) != 0 {
		t.Error("the last block of the largest disk")
	}
}

func TestDiskWrite(t *testing.T) {
	d := withWrites(numbered(3), 2)
	for _, at := range []int64{0, 2} {
		got := impl.DiskWrite(d, at, filled(50))
		want := withWrites(numbered(3), 2)
		want.Pending = append(want.Pending, impl.Write{Block: at, Data: filled(50)})
		if !sameDisk(got, want) {
			t.Error("a write of block", at, "stands at the end, and nothing else changes")
		}
	}
	for _, at := range []int64{-1, 3, math.MinInt64, math.MaxInt64, 1 << 58} {
		if !isZero(impl.DiskWrite(d, at, filled(1))) {
			t.Error("there is no block", at)
		}
	}
	for _, n := range []int{0, 1, 63, 65, 128} {
		if !isZero(impl.DiskWrite(d, 0, make([]byte, n))) {
			t.Error("no block has", n, "bytes")
		}
	}
	full := withWrites(numbered(2), make([]int64, 599)...)
	full = impl.DiskWrite(full, 1, filled(200))
	if len(full.Pending) != 600 || !bytes.Equal(impl.DiskRead(full, 1), filled(200)) {
		t.Error("600 writes may be pending")
	}
	if !isZero(impl.DiskWrite(full, 1, filled(201))) {
		t.Error("601 may not")
	}
	if again := impl.DiskWrite(impl.DiskFlush(full), 1, filled(201)); len(again.Pending) != 1 {
		t.Error("behind a flush there is room again")
	}
}

func TestWholeBlocksAreTold(t *testing.T) {
	data := make([]byte, 64)
	for i := range data {
		data[i] = byte(i * 3)
	}
	d := impl.DiskWrite(numbered(3), 1, data)
	flushed := impl.DiskFlush(d).Durable
	if !bytes.Equal(impl.DiskRead(d, 1), data) || !bytes.Equal(flushed[64:128], data) || !bytes.Equal(impl.DiskCrash(d, []int64{1}).Durable, flushed) || !bytes.Equal(impl.DiskImage(d), flushed) {
		t.Error("each byte stands in its place")
	}
	if !bytes.Equal(flushed[:64], filled(100)) || !bytes.Equal(flushed[128:], filled(102)) {
		t.Error("the blocks beside it are as they were")
	}
}

// Promise 2, over all lists of at most five writes to three blocks, and all choices of what is kept.
func TestFlushImageAndCrashOverAllSmallDisks(t *testing.T) {
	for n := range 6 {
		eachChoice(n, 3, func(at []int64) {
			d := withWrites(numbered(3), at...)
			flushed := impl.DiskFlush(d)
			if !sameDisk(flushed, plainCrash(d, all)) || !bytes.Equal(impl.DiskImage(d), flushed.Durable) {
				t.Fatal("flush or image with writes of", at)
			}
			for b := range int64(3) {
				if !bytes.Equal(impl.DiskRead(d, b), flushed.Durable[b*64:b*64+64]) {
					t.Fatal("behind a flush what readers saw is durable: writes of", at, "block", b)
				}
			}
			for length := range n + 2 {
				eachChoice(length, 2, func(keep []int64) {
					want := plainCrash(d, func(i int) bool { return i < len(keep) && keep[i] != 0 })
					if !sameDisk(impl.DiskCrash(d, keep), want) {
						t.Fatal("crash with writes of", at, "and", keep)
					}
				})
			}
		})
	}
}

func TestDiskCrashKinds(t *testing.T) {
	d := withWrites(numbered(2), 1, 1, 0, 1)
	for _, c := range []struct {
		name  string
		keep  []int64
		first byte
		other byte
	}{
		{"none, nil", nil, 100, 101},
		{"none, the empty list", []int64{}, 100, 101},
		{"none, by zeros", []int64{0, 0, 0, 0}, 100, 101},
		{"all", []int64{1, 1, 1, 1}, 3, 4},
		{"the second of three", []int64{0, 1, 0, 0}, 100, 2},
		{"shorter than the writes", []int64{1, 1}, 100, 2},
		{"longer than the writes", []int64{0, 0, 1, 0, 1, 1, 1}, 3, 101},
		{"other numbers than 0 and 1", []int64{7, 0, 256, 0}, 3, 1},
		{"numbers below 0", []int64{0, -1, -9, 0}, 3, 2},
		{"the least and the greatest number", []int64{0, 0, math.MinInt64, math.MaxInt64}, 3, 4},
		{"a number whose low bits are 0", []int64{0, 0, 1 << 32, 1 << 62}, 3, 4},
	} {
		got := impl.DiskCrash(d, c.keep)
		want := impl.Disk{Durable: append(filled(c.first), filled(c.other)...)}
		if !sameDisk(got, want) {
			t.Error(c.name)
		}
	}
	ones := make([]int64, 601)
	for i := range ones {
		ones[i] = 1
	}
	if !sameDisk(impl.DiskCrash(d, ones[:600]), impl.DiskFlush(d)) || !sameDisk(impl.DiskCrash(d, ones[:599]), impl.DiskFlush(d)) {
		t.Error("600 numbers may be there")
	}
	if !isZero(impl.DiskCrash(d, ones)) || !isZero(impl.DiskCrash(numbered(2), ones)) || !isZero(impl.DiskCrash(d, make([]int64, 601))) {
		t.Error("601 may not")
	}
	full := withWrites(numbered(2), make([]int64, 600)...)
	last := make([]int64, 600)
	last[598] = 1
	if impl.DiskCrash(full, last).Durable[0] != 599%256 {
		t.Error("the last but one of 600 writes is kept")
	}
	if !sameDisk(impl.DiskCrash(numbered(2), []int64{1, 1}), numbered(2)) {
		t.Error("a crash with nothing pending changes nothing")
	}
}

func TestFlushWithNothingPending(t *testing.T) {
	if !sameDisk(impl.DiskFlush(numbered(3)), numbered(3)) || !bytes.Equal(impl.DiskImage(numbered(3)), numbered(3).Durable) {
		t.Error("a flush with nothing pending changes nothing")
	}
	d := withWrites(numbered(3), 1, 2, 1)
	if once := impl.DiskFlush(d); !sameDisk(impl.DiskFlush(once), once) {
		t.Error("a second flush changes nothing")
	}
}

// The example at the end of the document's chapter 1.
func TestDiskExample(t *testing.T) {
	d := impl.DiskWrite(impl.DiskWrite(impl.NewDisk(3), 1, filled(7)), 1, filled(8))
	if !bytes.Equal(impl.DiskRead(d, 1), filled(8)) || !bytes.Equal(d.Durable, make([]byte, 192)) {
		t.Error("a reader sees 8s, 0s are durable")
	}
	if !bytes.Equal(impl.DiskCrash(d, []int64{1}).Durable[64:128], filled(7)) || !bytes.Equal(impl.DiskCrash(d, []int64{0, 5}).Durable[64:128], filled(8)) || !bytes.Equal(impl.DiskCrash(d, []int64{}).Durable[64:128], filled(0)) {
		t.Error("crashes")
	}
}
