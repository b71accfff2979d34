package tests

import (
	"math"
	"math/rand"
	"slices"
	"sync"
	"testing"

	"loop.example/s01525/impl"
)

// sharingTxn is a transaction, valid or not, whose lists share memory with each other.
func sharingTxn(seq int64) impl.Txn {
	data := append(drawn(64, 1), magic...)
	data = append(data, drawn(128, 2)...)
	return impl.Txn{Seq: seq, Homes: []impl.Home{
		{Block: 10, Data: data[:64]}, {Block: 11, Data: data[32:96]}, {Block: 12, Data: data[64:128]}, {Block: 13, Data: data[64:128]},
	}, Revokes: []int64{20, 21}}
}

// pureTxns are transactions, valid and not, made anew each time.
func pureTxns() map[string]func() impl.Txn {
	return map[string]func() impl.Txn{
		"one home":            func() impl.Txn { return txnOf(7, []int64{5}, nil) },
		"one revoke":          func() impl.Txn { return txnOf(7, nil, []int64{5}) },
		"some of both":        func() impl.Txn { return txnOf(7, runOf(10, 5), runOf(30, 3)) },
		"several pieces":      func() impl.Txn { return txnOf(7, runOf(10, 40), runOf(300, 60)) },
		"as many as may be":   func() impl.Txn { return txnOf(7, runOf(10, 128), nil) },
		"the last number":     func() impl.Txn { return txnOf(4294967295, []int64{5}, []int64{6}) },
		"lists that share":    func() impl.Txn { return sharingTxn(7) },
		"nothing":             func() impl.Txn { return impl.Txn{} },
		"no homes":            func() impl.Txn { return impl.Txn{Seq: 7} },
		"too many":            func() impl.Txn { return txnOf(7, runOf(10, 129), nil) },
		"no number":           func() impl.Txn { return txnOf(0, []int64{5}, nil) },
		"homes that fall":     func() impl.Txn { return txnOf(7, []int64{9, 4, 4}, []int64{1}) },
		"revokes that fall":   func() impl.Txn { return txnOf(7, []int64{1}, []int64{9, 4, 4}) },
		"one in both":         func() impl.Txn { return txnOf(7, []int64{4, 9}, []int64{4}) },
		"blocks out of reach": func() impl.Txn { return txnOf(7, []int64{math.MinInt64, math.MaxInt64}, nil) },
		"data of other lengths": func() impl.Txn {
			return impl.Txn{Seq: 7, Homes: []impl.Home{{Block: 3, Data: make([]byte, 63)}, {Block: 4, Data: make([]byte, 65)}, {Block: 5}}}
		},
	}
}

func pureLogs() []impl.Log {
	logs := []impl.Log{
		{}, {Size: 16, Seq: 7, Head: 3}, {Size: 16, Start: 15, Seq: 7, Head: 1, Used: 2}, {Size: 16, Start: 3, Seq: 7, Head: 3, Used: 16},
		{Size: 512, Start: 500, Seq: 7, Head: 500}, {Size: 512, Seq: 4294967295, Head: 1}, {Size: 15, Seq: 7, Head: 1}, {Size: 16, Start: 3, Seq: 7, Head: 3, Used: 1},
	}
	for _, v := range []int64{math.MinInt64, -1, 17, 513, math.MaxInt64} {
		logs = append(logs, impl.Log{Size: v, Seq: 7, Head: 1}, impl.Log{Size: 16, Start: v, Seq: 7, Head: 1}, impl.Log{Size: 16, Seq: v, Head: 1},
			impl.Log{Size: 16, Seq: 7, Head: v}, impl.Log{Size: 16, Start: 1, Seq: 7, Head: 1, Used: v}, impl.Log{Size: v, Start: v, Seq: v, Head: v, Used: v})
	}
	return logs
}

func TestPureTxns(t *testing.T) {
	t.Parallel()
	for name, txn := range pureTxns() {
		checkPure(t, pureCase{"ValidTxn, " + name, impl.ValidTxn, func() []any { return []any{txn()} }})
		checkPure(t, pureCase{"TxnLength, " + name, impl.TxnLength, func() []any { return []any{txn()} }})
		checkPure(t, pureCase{"TxnBlocks, " + name, impl.TxnBlocks, func() []any { return []any{txn()} }})
		for _, l := range pureLogs() {
			checkPure(t, pureCase{"AppendOps, " + name, impl.AppendOps, func() []any { return []any{l, txn()} }})
			checkPure(t, pureCase{"LogNext, " + name, impl.LogNext, func() []any { return []any{l, txn()} }})
		}
	}
}

func TestPureLogs(t *testing.T) {
	for _, l := range pureLogs() {
		checkPure(t, pureCase{"ValidLog", impl.ValidLog, func() []any { return []any{l} }})
		checkPure(t, pureCase{"TailOps", impl.TailOps, func() []any { return []any{l} }})
		checkPure(t, pureCase{"LogTail", impl.LogTail, func() []any { return []any{l} }})
	}
}

func TestPureReadTxn(t *testing.T) {
	for _, x := range append(wholeTxns(), sharingTxn(7)) {
		b := plainTxn(x)
		other := slices.Clone(b)
		other[len(b)/2] ^= 1
		for _, list := range [][]byte{b, other, b[:len(b)-1], b[64:], b[:len(b)-64], slices.Concat(b, b)} {
			checkPure(t, pureCase{"ReadTxn", impl.ReadTxn, func() []any { return []any{slices.Clone(list)} }})
		}
	}
	for _, b := range pureBlocks() {
		checkPure(t, pureCase{"ReadTxn of a block", impl.ReadTxn, func() []any { return []any{slices.Clone(b)} }})
	}
}

// Two answers share no memory, nor do the lists within one, though the argument's lists share some.
func TestPureTxnsApart(t *testing.T) {
	x := sharingTxn(7)
	if !impl.ValidTxn(x) {
		t.Fatal("it is valid")
	}
	l := impl.Log{Size: 16, Seq: 7, Head: 9}
	checkApart(t, "TxnBlocks", []any{x, impl.TxnBlocks(x)}, impl.TxnBlocks(x))
	checkApart(t, "AppendOps", []any{x, impl.AppendOps(l, x)}, impl.AppendOps(l, x))
	b := impl.TxnBlocks(x)
	checkApart(t, "ReadTxn", []any{b, impl.ReadTxn(b)}, impl.ReadTxn(b))
	full := impl.Log{Size: 16, Start: 9, Seq: 7, Head: 9, Used: 16}
	checkApart(t, "TailOps", []any{impl.TailOps(full)}, impl.TailOps(full))
}

// txnCalls makes all nine functions answer, wrong arguments among them, and tells all of it.
func txnCalls(seed int64) string {
	draw := rand.New(rand.NewSource(seed))
	var told []any
	for range 12 {
		size := 14 + draw.Int63n(300)
		l := impl.Log{Size: size, Start: draw.Int63n(size + 2), Seq: 1 + draw.Int63n(9), Head: 1 + draw.Int63n(size)}
		if l.Start > 0 && draw.Intn(4) > 0 {
			l.Used = draw.Int63n(size)
			l.Head = (l.Start-1+l.Used)%size + 1
		}
		x := drawnTxn(draw, l.Seq, 1+draw.Intn(60))
		if draw.Intn(6) == 0 {
			x.Revokes = append(x.Revokes, draw.Int63n(2048))
		}
		b := impl.TxnBlocks(x)
		told = append(told, impl.ValidTxn(x), impl.TxnLength(x), slices.Clone(b), impl.ReadTxn(b))
		if len(b) > 0 {
			b[draw.Intn(len(b))] ^= 4
			told = append(told, impl.ReadTxn(b), impl.ReadTxn(b[64:]))
		}
		told = append(told, impl.ValidLog(l), impl.AppendOps(l, x), impl.LogNext(l, x), impl.TailOps(l), impl.LogTail(l))
	}
	return value(told)
}

// What a call answers does not hang on what was called before it, nor beside it.
func TestPureTxnCalls(t *testing.T) {
	first := txnCalls(3)
	for seed := range int64(20) {
		txnCalls(seed)
		if txnCalls(3) != first {
			t.Fatal("behind other calls the same calls answer otherwise, seed", seed)
		}
	}
	var got [8]string
	var all sync.WaitGroup
	for i := range got {
		all.Add(1)
		go func() {
			defer all.Done()
			got[i] = txnCalls(3)
		}()
	}
	all.Wait()
	for i, g := range got {
		if g != first {
			t.Error("calls at once answer otherwise:", i)
		}
	}
}
