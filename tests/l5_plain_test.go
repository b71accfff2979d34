package tests

import (
	"bytes"
	"math/rand"
	"slices"
	"testing"

	"loop.example/s01525/impl"
)

// layAt lays blocks down in a log of this size from a position on, and tells the position behind them.
func layAt(d impl.Disk, size, p int64, b []byte) int64 {
	for i := 0; i < len(b); i += 64 {
		copy(d.Durable[(1+p)*64:(2+p)*64], b[i:i+64])
		p = stepOn(p, 1, size)
	}
	return p
}

// diskWith is a numbered disk with this superblock, and these transactions in its log from its start on.
func diskWith(blocks int, super impl.JSuper, txns ...impl.Txn) impl.Disk {
	d := numbered(blocks)
	copy(d.Durable[64:128], superKind().plain(super))
	p := max(super.Start, 1)
	for _, x := range txns {
		p = layAt(d, super.Log, p, plainTxn(x))
	}
	return d
}

// diskLike is a copy of a disk on which nothing is pending, with one byte of a block turned.
func diskLike(d impl.Disk, block int64, at int, turn byte) impl.Disk {
	out := impl.Disk{Durable: bytes.Clone(d.Durable)}
	out.Durable[block*64+int64(at)] ^= turn
	return out
}

// txnWithin draws a valid transaction of 1 to most blocks among n ones from a block on. Its data are of few kinds,
// so that the same ones come again.
func txnWithin(draw *rand.Rand, seq, from int64, n, most int) impl.Txn {
	blocks := draw.Perm(n)[:1+draw.Intn(min(n, most))]
	slices.Sort(blocks)
	x := impl.Txn{Seq: seq}
	share := draw.Intn(5)
	for _, b := range blocks {
		if draw.Intn(4) >= share {
			x.Revokes = append(x.Revokes, from+int64(b))
			continue
		}
		data := drawn(64, draw.Int63n(6))
		switch draw.Intn(5) {
		case 0:
			copy(data, magic)
		case 1:
			copy(data, make([]byte, 4))
		}
		x.Homes = append(x.Homes, impl.Home{Block: from + int64(b), Data: data})
	}
	return x
}

// plainFound is what the document says that ScanLog tells: each number of blocks is tried.
func plainFound(d impl.Disk) impl.Found {
	size := int64(len(d.Durable))
	if len(d.Pending) > 0 || size == 0 || size%64 != 0 || size > 2048*64 {
		return impl.Found{Code: 1}
	}
	k := superKind()
	if size < 128 {
		return impl.Found{Code: 2}
	}
	super := k.parse(d.Durable[64:128]).(impl.JSuper)
	if !k.valid(super) || !bytes.Equal(k.plain(super), d.Durable[64:128]) || size/64 < 2+super.Log {
		return impl.Found{Code: 2}
	}
	if super.Seq > 4294967295-100000 {
		return impl.Found{Code: 3}
	}
	f := impl.Found{Super: super}
	p, left := super.Start, super.Log
	for p > 0 {
		x, n := plainNext(d, super.Log, p, left, super.Seq+int64(len(f.Txns)))
		if n == 0 {
			break
		}
		f.Txns = append(f.Txns, x)
		p, left = stepOn(p, n, super.Log), left-n
	}
	return f
}

// plainNext is the transaction of this number whose blocks are those of at most left positions from p on, and how many they are.
func plainNext(d impl.Disk, size, p, left, seq int64) (impl.Txn, int64) {
	log := d.Durable[128 : (2+size)*64]
	b := slices.Concat(log[(p-1)*64:], log[:(p-1)*64])
	for n := int64(1); n <= left; n++ {
		r := impl.ReadTxn(b[:n*64])
		if !r.Good || r.Txn.Seq != seq {
			continue
		}
		blocks := slices.Clone(r.Txn.Revokes)
		for _, h := range r.Txn.Homes {
			blocks = append(blocks, h.Block)
		}
		if slices.Min(blocks) >= 2+size && slices.Max(blocks) < int64(len(d.Durable)/64) {
			return r.Txn, n
		}
	}
	return impl.Txn{}, 0
}

// plainRevoked and plainSurvivors go by the words of 5.2, copy by copy.
func plainRevoked(txns []impl.Txn, i int, block int64) bool {
	revoked := false
	for j, x := range txns {
		for _, b := range x.Revokes {
			revoked = revoked || j > i && b == block
		}
	}
	return revoked
}

func plainSurvivors(txns []impl.Txn) []impl.Home {
	count := 0
	last := map[int64][]byte{}
	for i, x := range txns {
		count += len(x.Homes) + len(x.Revokes)
		for _, h := range x.Homes {
			if !plainRevoked(txns, i, h.Block) {
				last[h.Block] = h.Data
			}
		}
	}
	if len(txns) > 512 || count > 10000 {
		return nil
	}
	return asHomes(last)
}

// folded is the fold of promise 8.
func folded(txns []impl.Txn) []impl.Home {
	now := map[int64][]byte{}
	for _, x := range txns {
		for _, b := range x.Revokes {
			delete(now, b)
		}
		for _, h := range x.Homes {
			now[h.Block] = h.Data
		}
	}
	return asHomes(now)
}

func asHomes(data map[int64][]byte) []impl.Home {
	homes := []impl.Home{}
	for b, d := range data {
		homes = append(homes, impl.Home{Block: b, Data: d})
	}
	slices.SortFunc(homes, func(a, b impl.Home) int {
		if a.Block < b.Block {
			return -1
		}
		return 1
	})
	return homes
}

// plainRecoverOps are the operations of 5.3, of what was found.
func plainRecoverOps(f impl.Found) []impl.Op {
	if f.Code != 0 || f.Super.Start == 0 {
		return nil
	}
	var ops []impl.Op
	for _, h := range plainSurvivors(f.Txns) {
		ops = append(ops, impl.Op{Kind: 1, Block: h.Block, Data: h.Data})
	}
	if len(ops) > 0 {
		ops = append(ops, flushOp())
	}
	super := superKind().plain(impl.JSuper{Log: f.Super.Log, Seq: f.Super.Seq + 1 + int64(len(f.Txns))})
	return append(ops, impl.Op{Kind: 1, Block: 1, Data: super}, flushOp())
}

// plainDump are the lines of 5.4, of what was found.
func plainDump(d impl.Disk, f impl.Found) []impl.LogLine {
	if f.Code != 0 {
		return nil
	}
	lines := make([]impl.LogLine, f.Super.Log)
	for i := range lines {
		b := d.Durable[(2+i)*64 : (3+i)*64]
		lines[i] = impl.LogLine{Position: int64(1 + i)}
		if string(b[:4]) == "jlog" && 1 <= b[4] && b[4] <= 4 {
			lines[i].Kind, lines[i].Seq = int64(b[4]), parsed(b, 8, 4)
		}
	}
	p := f.Super.Start
	for i, x := range f.Txns {
		for _, line := range plainLines(x) {
			line.Position, line.Txn, line.Seq = p, int64(1+i), x.Seq
			lines[p-1] = line
			p = stepOn(p, 1, f.Super.Log)
		}
	}
	return lines
}

// plainLines are the kinds of a transaction's blocks, and the homes of its copies.
func plainLines(x impl.Txn) []impl.LogLine {
	var lines []impl.LogLine
	for range (len(x.Revokes) + 25) / 26 {
		lines = append(lines, impl.LogLine{Kind: 3})
	}
	for i, h := range x.Homes {
		if i%17 == 0 {
			lines = append(lines, impl.LogLine{Kind: 2})
		}
		lines = append(lines, impl.LogLine{Kind: 5, Block: h.Block})
	}
	return append(lines, impl.LogLine{Kind: 4})
}

// checkJournal holds all that is told of a disk's log against the document, whatever the disk is.
func checkJournal(t *testing.T, name string, d impl.Disk) impl.Found {
	t.Helper()
	f := plainFound(d)
	if got := impl.ScanLog(d); value(got) != value(f) {
		t.Errorf("%s: ScanLog has code %d, %v, %d transactions, not %d, %v, %d", name, got.Code, got.Super, len(got.Txns), f.Code, f.Super, len(f.Txns))
	}
	ops := plainRecoverOps(f)
	if got := impl.RecoverOps(d); value(got) != value(ops) {
		t.Errorf("%s: RecoverOps are %v, not %v", name, placesOf(got), placesOf(ops))
	}
	if got := impl.Dump(d); value(got) != value(plainDump(d, f)) {
		t.Errorf("%s: Dump is\n%v, not\n%v", name, got, plainDump(d, f))
	}
	for _, limit := range []int64{-1, 0, 1, int64(len(ops)) - 1, int64(len(ops)), int64(len(ops)) + 1} {
		checkRecover(t, name, d, f, ops, limit)
	}
	return f
}

// checkRecover holds Recover with one limit against the operations that it has to do.
func checkRecover(t *testing.T, name string, d impl.Disk, f impl.Found, ops []impl.Op, limit int64) {
	t.Helper()
	want := impl.Recovered{Code: f.Code}
	if f.Code == 0 {
		done := ops
		if limit >= 0 && limit < int64(len(ops)) {
			done = ops[:limit]
		}
		want = impl.Recovered{Stopped: len(done) < len(ops), Ops: int64(len(done)), Disk: oneByOne(d, done)}
	}
	if got := impl.Recover(d, limit); value(got) != value(want) {
		t.Errorf("%s: Recover with limit %d: code %d, stopped %v, %d operations, %d pending, not %d, %v, %d, %d (or another disk)", name, limit,
			got.Code, got.Stopped, got.Ops, len(got.Disk.Pending), want.Code, want.Stopped, want.Ops, len(want.Disk.Pending))
	}
}
