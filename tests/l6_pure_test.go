package tests

import (
	"bytes"
	"math"
	"math/rand"
	"slices"
	"sync"
	"testing"

	"loop.example/s01525/impl"
)

// sharingHomes are homes whose data share memory with each other.
func sharingHomes() []impl.Home {
	data := drawn(200, 3)
	return []impl.Home{{Block: 30, Data: data[:64]}, {Block: 31, Data: data[:64]}, {Block: 32, Data: data[10:74]}, {Block: 30, Data: data[60:61]}, {Block: -1}, {Block: 5, Data: data[7:7]}}
}

func TestPureLimitAndCheckpoint(t *testing.T) {
	t.Parallel()
	for _, size := range []int64{math.MinInt64, -1, 0, 15, 16, 19, 20, 512, 513, math.MaxInt64} {
		checkPure(t, pureCase{"TxnLimit", impl.TxnLimit, func() []any { return []any{size} }})
	}
	for _, l := range append(pureLogs(), impl.Log{Size: 16, Start: 15, Seq: 9, Head: 2, Used: 3}, impl.Log{Size: 16, Start: 15, Seq: 9, Head: 15, Used: 16}) {
		for name, homes := range map[string]func() []impl.Home{
			"none":             func() []impl.Home { return nil },
			"an empty list":    func() []impl.Home { return []impl.Home{} },
			"two":              func() []impl.Home { return []impl.Home{home(30, 1), home(31, 2)} },
			"data that share":  sharingHomes,
			"the most":         func() []impl.Home { return slices.Repeat([]impl.Home{home(30, 1)}, 600) },
			"one too many":     func() []impl.Home { return slices.Repeat([]impl.Home{home(30, 1)}, 601) },
			"of a transaction": func() []impl.Home { return sharingTxn(7).Homes },
		} {
			checkPure(t, pureCase{"CheckpointOps, " + name, impl.CheckpointOps, func() []any { return []any{l, homes()} }})
		}
	}
}

// sharingCalls are calls whose data share memory with each other.
func sharingCalls() []impl.TxnCall {
	data := drawn(200, 3)
	p := func(block int64, from int) impl.TxnCall {
		return impl.TxnCall{Kind: 2, Block: block, Data: data[from : from+64]}
	}
	return []impl.TxnCall{
		getCall(30), getCall(30), beginCall(3), p(30, 0), p(31, 0), p(32, 1), p(30, 2), getCall(30), getCall(31), getCall(30), endCall(), getCall(32), commitCall(), getCall(30), getCall(30),
		beginCall(4), freeCall(30), p(31, 9), {Kind: 2, Block: 31, Data: data[3:3]}, getCall(31), abortCall(), statusCall(), getCall(31), getCall(22), checkpointCall(), getCall(31),
		beginCall(2), p(20, 9), p(22, 9), p(23, 9), endCall(), getCall(22),
	}
}

// pureRuns are lists of calls, made anew each time.
func pureRuns() map[string]func() []impl.TxnCall {
	return map[string]func() []impl.TxnCall{
		"none":            func() []impl.TxnCall { return nil },
		"an empty list":   func() []impl.TxnCall { return []impl.TxnCall{} },
		"data that share": sharingCalls,
		"drawn": func() []impl.TxnCall {
			w := callDraw{draw: rand.New(rand.NewSource(5)), size: 16, blocks: 24, frees: true}
			return w.calls(120)
		},
		"gets":         func() []impl.TxnCall { return slices.Repeat([]impl.TxnCall{getCall(20)}, 40) },
		"kinds":        func() []impl.TxnCall { return []impl.TxnCall{callKind(0), callKind(10), callKind(math.MinInt64)} },
		"one too many": func() []impl.TxnCall { return make([]impl.TxnCall, 2001) },
	}
}

func TestPureRunTxn(t *testing.T) {
	t.Parallel()
	disks := loggedDisks()
	disks["an empty log"] = func() impl.Disk { return emptyLog(16, 40, 7) }
	disks["an empty log, no homes"] = func() impl.Disk { return emptyLog(16, 18, 7) }
	disks["no log"] = func() impl.Disk { return numbered(40) }
	disks["lists that share"] = tangled
	for name, disk := range disks {
		for of, calls := range pureRuns() {
			for _, limit := range []int64{math.MinInt64, -1, 0, 1, 4, 9, 13, 30, math.MaxInt64} {
				if len(disk().Durable) > 10000 && limit != -1 && limit != 9 {
					continue
				}
				checkPure(t, pureCase{"RunTxn, " + name + ", " + of, impl.RunTxn, func() []any { return []any{disk(), calls(), limit} }})
			}
		}
	}
}

// What two gets of one block tell are two lists, and so are what is got and what was put.
func TestPureGetsApart(t *testing.T) {
	d := emptyLog(16, 40, 7)
	calls := sharingCalls()
	r := impl.RunTxn(d, calls, -1)
	checkApart(t, "RunTxn", []any{d, calls, impl.RunTxn(d, calls, -1)}, r)
	before := value(impl.RunTxn(d, calls, -1))
	for _, a := range r.Answers {
		for i := range a.Data {
			a.Data[i]++
		}
	}
	if value(impl.RunTxn(d, calls, -1)) != before || bytes.Equal(calls[3].Data, calls[6].Data) {
		t.Error("writing over answers changes the calls")
	}
	// The same data put by two calls are two blocks, whichever list they came in.
	data := filled(1)
	calls = []impl.TxnCall{beginCall(2), {Kind: 2, Block: 20, Data: data}, {Kind: 2, Block: 21, Data: data}, getCall(20), getCall(21), endCall(), commitCall()}
	for limit := range int64(8) {
		checkApart(t, "RunTxn", []any{d, calls}, impl.RunTxn(d, calls, limit))
	}
}

// handleCalls makes all three functions answer, wrong arguments among them, and tells all of it.
func handleCalls(seed int64) string {
	draw := rand.New(rand.NewSource(seed))
	var told []any
	for range 8 {
		size := 14 + draw.Int63n(20)
		w := callDraw{draw: draw, size: max(size, 16), blocks: max(size, 16) + 3 + draw.Int63n(20), frees: true}
		d := emptyLog(w.size, int(w.blocks-draw.Int63n(2)), 1+draw.Int63n(9))
		calls := w.calls(60)
		r := impl.RunTxn(d, calls, draw.Int63n(60)-20)
		again := impl.RunTxn(impl.DiskCrash(r.Disk, []int64{1, 0, 1}), calls, -1)
		l := impl.Log{Size: size, Start: 3, Seq: 9, Head: 3 + draw.Int63n(3), Used: draw.Int63n(3)}
		told = append(told, impl.TxnLimit(size), r, again, impl.CheckpointOps(l, []impl.Home{home(draw.Int63n(40), 1)}), impl.RunTxn(again.Disk, calls[:3], 1))
	}
	return value(told)
}

// What a call answers does not hang on what was called before it, nor beside it.
func TestPureHandleCalls(t *testing.T) {
	first := handleCalls(3)
	for seed := range int64(20) {
		handleCalls(seed)
		if handleCalls(3) != first {
			t.Fatal("behind other calls the same calls answer otherwise, seed", seed)
		}
	}
	var got [8]string
	var all sync.WaitGroup
	for i := range got {
		all.Add(1)
		go func() {
			defer all.Done()
			got[i] = handleCalls(3)
		}()
	}
	all.Wait()
	for i, g := range got {
		if g != first {
			t.Error("calls at once answer otherwise:", i)
		}
	}
}
