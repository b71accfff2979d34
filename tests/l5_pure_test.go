package tests

import (
	"bytes"
	"math"
	"math/rand"
	"slices"
	"sync"
	"testing"

	"loop.example/s01525/impl"
)

// loggedDisks are disks with a log, whole and not, and disks without one, made anew each time.
func loggedDisks() map[string]func() impl.Disk {
	some := []impl.Txn{txnOf(7, []int64{18, 20, 22, 23}, []int64{19}), txnOf(8, []int64{19}, []int64{18, 20}), txnOf(9, nil, []int64{21})}
	whole := func() impl.Disk { return diskWith(24, impl.JSuper{Log: 16, Start: 11, Seq: 7}, some...) }
	return map[string]func() impl.Disk{
		"whole":              whole,
		"torn":               func() impl.Disk { return diskLike(whole(), 7, 3, 1) },
		"bent":               func() impl.Disk { return diskLike(whole(), 13, 9, 1) },
		"empty":              func() impl.Disk { return diskWith(24, impl.JSuper{Log: 16, Seq: 7}, some...) },
		"nothing in it":      func() impl.Disk { return diskWith(24, impl.JSuper{Log: 16, Start: 3, Seq: 7}) },
		"the same data":      func() impl.Disk { return diskWith(24, impl.JSuper{Log: 16, Start: 3, Seq: 7}, sameTxn()) },
		"long ones":          func() impl.Disk { return diskWith(400, impl.JSuper{Log: 200, Start: 99, Seq: 7}, longTxns()...) },
		"too few blocks":     func() impl.Disk { return impl.Disk{Durable: whole().Durable[:17*64]} },
		"too large a number": func() impl.Disk { return diskWith(24, impl.JSuper{Log: 16, Start: 3, Seq: 4294867296}) },
		"a pending write":    func() impl.Disk { return withWrites(whole(), 20) },
	}
}

// sameTxn has the same data for each of its homes.
func sameTxn() impl.Txn {
	return impl.Txn{Seq: 7, Homes: []impl.Home{home(18, 5), home(19, 5), home(20, 5), home(23, 5)}}
}

func longTxns() []impl.Txn {
	return []impl.Txn{txnOf(7, runOf(202, 50), runOf(300, 60)), txnOf(8, runOf(290, 80), runOf(202, 20))}
}

func TestPureRecovery(t *testing.T) {
	t.Parallel()
	disks := loggedDisks()
	for name, disk := range pureDisks() {
		disks["no log: "+name] = disk
	}
	for name, disk := range disks {
		checkPure(t, pureCase{"ScanLog, " + name, impl.ScanLog, func() []any { return []any{disk()} }})
		checkPure(t, pureCase{"RecoverOps, " + name, impl.RecoverOps, func() []any { return []any{disk()} }})
		checkPure(t, pureCase{"Dump, " + name, impl.Dump, func() []any { return []any{disk()} }})
		for _, limit := range []int64{math.MinInt64, -1, 0, 1, 2, 3, 4, 5, 6, 7, math.MaxInt64} {
			checkPure(t, pureCase{"Recover, " + name, impl.Recover, func() []any { return []any{disk(), limit} }})
		}
	}
}

// pureLists are transactions, valid and not, whose lists share memory or not.
func pureLists() map[string]func() []impl.Txn {
	return map[string]func() []impl.Txn{
		"none":             func() []impl.Txn { return nil },
		"an empty list":    func() []impl.Txn { return []impl.Txn{} },
		"empty ones":       func() []impl.Txn { return make([]impl.Txn, 3) },
		"lists that share": func() []impl.Txn { return []impl.Txn{sharingTxn(7), sharingTxn(8)} },
		"one, three times": func() []impl.Txn { x := sharingTxn(7); return []impl.Txn{x, x, x} },
		"several":          func() []impl.Txn { return longTxns() },
		"revoked":          func() []impl.Txn { return []impl.Txn{sharingTxn(7), gone(10, 12), txnOf(9, []int64{12}, []int64{13})} },
		"the same data":    func() []impl.Txn { x := sameTxn(); x.Homes[1].Data = x.Homes[0].Data; return []impl.Txn{x} },
		"no order, other lengths": func() []impl.Txn {
			return []impl.Txn{{Homes: []impl.Home{{Block: 9, Data: drawn(65, 1)}, {Block: 4}, {Block: 9, Data: []byte{}}, {Block: -7, Data: drawn(3, 2)}}, Revokes: []int64{9, 4, 4}}}
		},
		"513":   func() []impl.Txn { return slices.Repeat([]impl.Txn{gone(4)}, 513) },
		"10001": func() []impl.Txn { return spread(5000, 5001, 4) },
		"10000": func() []impl.Txn { return spread(300, 9700, 4) },
	}
}

func TestPureFold(t *testing.T) {
	t.Parallel()
	for name, txns := range pureLists() {
		checkPure(t, pureCase{"Survivors, " + name, impl.Survivors, func() []any { return []any{txns()} }})
		for _, i := range []int64{math.MinInt64, -1, 0, 1, 2, 3, math.MaxInt64} {
			for _, block := range []int64{math.MinInt64, 4, 10, 12, math.MaxInt64} {
				checkPure(t, pureCase{"Revoked, " + name, impl.Revoked, func() []any { return []any{txns(), i, block} }})
			}
		}
	}
}

// What Survivors tells is a copy, also of data that several transactions have in common.
func TestPureSurvivorsApart(t *testing.T) {
	shared := filled(9)
	txns := []impl.Txn{put(impl.Home{Block: 3, Data: shared}, impl.Home{Block: 4, Data: shared}), put(impl.Home{Block: 5, Data: shared[:32]}, impl.Home{Block: 6, Data: shared[16:40]})}
	got := impl.Survivors(txns)
	checkApart(t, "Survivors", []any{txns, impl.Survivors(txns)}, got)
	got[0].Data[0] = 1
	if shared[0] != 9 || got[1].Data[0] != 9 || got[2].Data[0] != 9 {
		t.Error("writing over one home changes another")
	}
	disk := loggedDisks()["whole"]()
	checkApart(t, "RecoverOps", []any{disk, impl.RecoverOps(disk), impl.ScanLog(disk)}, impl.RecoverOps(disk))
	r := impl.Recover(disk, 2)
	checkApart(t, "Recover", []any{disk, impl.Recover(disk, 2)}, r)
	before := bytes.Clone(disk.Durable)
	r.Disk.Pending[0].Data[0]++
	r.Disk.Durable[0]++
	if !bytes.Equal(disk.Durable, before) {
		t.Error("writing over the recovered disk changes the one before it")
	}
}

// recoveryCalls makes all six functions answer, wrong arguments among them, and tells all of it.
func recoveryCalls(seed int64) string {
	draw := rand.New(rand.NewSource(seed))
	var told []any
	for range 10 {
		size := 16 + draw.Int63n(30)
		var txns []impl.Txn
		for used := int64(0); ; {
			x := txnWithin(draw, int64(5+len(txns)), 2+size, 10, 6)
			if used += impl.TxnLength(x); used > size {
				break
			}
			txns = append(txns, x)
		}
		d := diskWith(int(size)+11+draw.Intn(2), impl.JSuper{Log: size, Start: draw.Int63n(size + 1), Seq: 5}, txns...)
		if draw.Intn(3) == 0 {
			d = diskLike(d, 1+draw.Int63n(size), draw.Intn(64), 2)
		}
		limit := draw.Int63n(9) - 1
		told = append(told, impl.ScanLog(d), impl.RecoverOps(d), impl.Recover(d, limit), impl.Dump(d), impl.Survivors(txns), impl.Recover(impl.Recover(d, limit).Disk, -1))
		for i := range int64(4) {
			told = append(told, impl.Revoked(txns, i-1, 2+size+draw.Int63n(10)))
		}
	}
	return value(told)
}

// What a call answers does not hang on what was called before it, nor beside it.
func TestPureRecoveryCalls(t *testing.T) {
	first := recoveryCalls(3)
	for seed := range int64(20) {
		recoveryCalls(seed)
		if recoveryCalls(3) != first {
			t.Fatal("behind other calls the same calls answer otherwise, seed", seed)
		}
	}
	var got [8]string
	var all sync.WaitGroup
	for i := range got {
		all.Add(1)
		go func() {
			defer all.Done()
			got[i] = recoveryCalls(3)
		}()
	}
	all.Wait()
	for i, g := range got {
		if g != first {
			t.Error("calls at once answer otherwise:", i)
		}
	}
}
