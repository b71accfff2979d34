package tests

import (
	"math"
	"math/rand"
	"slices"
	"testing"

	"loop.example/s01525/impl"
)

// someLimits are limits at the ends of the numbers, and small ones.
func someLimits() []int64 {
	return []int64{math.MinInt64, math.MinInt64 + 1, -1 << 32, -2, -1, 0, 1, 2, 7, 1 << 32, math.MaxInt64 - 1, math.MaxInt64}
}

// Codes of a run: too many calls come first, and then what ScanLog says. All else is zero then.
func TestRunTxnCodes(t *testing.T) {
	good := emptyLog(16, 40, 7)
	logged := diskWith(40, impl.JSuper{Log: 16, Start: 12, Seq: 7}, put(home(22, 1)))
	codes := map[int64][]impl.Disk{
		0: {good, logged, emptyLog(16, 18, 7), emptyLog(512, 2048, 7), emptyLog(16, 40, 4294867295), emptyLog(16, 40, 1)},
		1: {withWrites(good, 20), withWrites(logged, 1), {}, {Durable: make([]byte, 65)}, {Durable: make([]byte, 64*2049)}},
		2: {impl.NewDisk(1), impl.NewDisk(40), numbered(40), emptyLog(16, 17, 7), diskLike(good, 1, 63, 1), diskLike(good, 1, 14, 1)},
		3: {emptyLog(16, 40, 4294867296), emptyLog(16, 40, 4294967295), diskWith(40, impl.JSuper{Log: 16, Start: 3, Seq: 4294867296})},
	}
	for _, d := range brokenDisks() {
		codes[1] = append(codes[1], d)
	}
	for code, disks := range codes {
		for i, d := range disks {
			for _, limit := range someLimits() {
				for _, n := range []int{0, 1, 1999, 2000, 2001, 5000} {
					want := code
					if n > 2000 {
						want = 44
					}
					got := impl.RunTxn(d, make([]impl.TxnCall, n), limit)
					if got.Code != want || want != 0 && value(got) != value(impl.TxnRun{Code: want}) {
						t.Fatalf("disk %d, %d calls, limit %d: code %d, not %d, or something beside it", i, n, limit, got.Code, want)
					}
					if got.Code == 0 && !got.Stopped && len(got.Answers) != n {
						t.Fatalf("disk %d, %d calls, limit %d: %d answers", i, n, limit, len(got.Answers))
					}
				}
			}
		}
	}
}

// As many calls as there may be, of all kinds; one more has only a code.
func TestRunTxnOfManyCalls(t *testing.T) {
	t.Parallel()
	for _, size := range []int64{16, 60} {
		w := callDraw{draw: rand.New(rand.NewSource(size)), size: size, blocks: size + 12, frees: true}
		d := emptyLog(size, int(w.blocks), 7)
		calls := w.calls(2000)
		p := checkRun(t, "2000 calls", d, calls, -1)
		if len(p.answers) != 2000 || len(p.marks) < 50 || p.rounds < 5 {
			t.Error(len(p.answers), "answers,", len(p.marks), "commits,", p.rounds, "rounds")
		}
		for _, limit := range append(someLimits(), int64(len(p.ops)-1), int64(len(p.ops)), int64(len(p.ops)+1)) {
			checkRun(t, "2000 calls", d, calls, limit)
		}
		if got := impl.RunTxn(d, append(slices.Clip(calls), statusCall()), -1); value(got) != value(impl.TxnRun{Code: 44}) {
			t.Error("2001 calls: code", got.Code)
		}
	}
}

// A disk whose log holds something: it is recovered first, its operations are counted, and the log begins anew.
func TestRunTxnRecoversFirst(t *testing.T) {
	d := diskWith(40, impl.JSuper{Log: 16, Start: 12, Seq: 7}, put(home(22, 1), home(30, 2)), impl.Txn{Seq: 8, Homes: []impl.Home{home(23, 3)}, Revokes: []int64{30}})
	calls := []impl.TxnCall{statusCall(), getCall(22), getCall(23), getCall(30), beginCall(1), putCall(23, 9), endCall(), commitCall(), statusCall()}
	for limit := range int64(13) {
		r := impl.RunTxn(d, calls, limit)
		answers := 0
		if limit >= 5 {
			answers = 7
		}
		if limit >= 11 {
			answers = 9
		}
		// Two homes, a flush, the superblock, a flush; the superblock, a flush, three blocks, a flush.
		if r.Code != 0 || r.Ops != min(limit, 11) || r.Stopped != (limit < 11) || len(r.Answers) != answers {
			t.Errorf("limit %d: code %d, %d operations, stopped %v, %d answers", limit, r.Code, r.Ops, r.Stopped, len(r.Answers))
		}
		if limit <= 5 && !sameDisk(r.Disk, impl.Recover(d, limit).Disk) {
			t.Error("limit", limit, "leaves another disk than a recovery")
		}
	}
	r := impl.RunTxn(d, calls, -1)
	if r.Answers[0].State != (impl.TxnState{Seq: 10, Head: 1}) || r.Answers[8].State != (impl.TxnState{Seq: 11, Head: 4, Used: 3, Committed: 1}) {
		t.Error(r.Answers[0].State, r.Answers[8].State)
	}
	if r.Answers[1].Data[0] != 1 || r.Answers[2].Data[0] != 3 || r.Answers[3].Data[0] != 130 {
		t.Error("the homes that were recovered are not seen")
	}
	checkRunStopped(t, "recovers", d, calls)
}

// A log whose Start is 0 is taken as it is, whatever blocks stand in it; one that holds nothing is recovered all the same.
func TestRunTxnOfAnEmptyLog(t *testing.T) {
	for start := range int64(17) {
		for _, txns := range [][]impl.Txn{nil, {put(home(22, 1))}, {txnOf(6, []int64{22}, nil)}, {put(home(22, 1)), txnOf(9, []int64{23}, nil)}, {gone(22)}} {
			d := diskWith(40, impl.JSuper{Log: 16, Start: start, Seq: 7}, txns...)
			calls := []impl.TxnCall{statusCall(), getCall(22), beginCall(4), putCall(22, 4), putCall(39, 5), endCall(), commitCall(), statusCall(), checkpointCall()}
			p := checkRunStopped(t, "empty", d, calls)
			if start == 0 && (p.marks[0].end != 0 || p.answers[0].State != (impl.TxnState{Seq: 7, Head: 1}) || p.answers[1].Data[0] != 122) {
				t.Error("a log of start 0 is not taken as it is")
			}
			if start == 0 {
				continue
			}
			if want := 8 + int64(len(plainFound(d).Txns)); p.answers[0].State != (impl.TxnState{Seq: want, Head: 1}) {
				t.Error("start", start, "tells", p.answers[0].State)
			}
		}
	}
}

// A limit that is met by no operation stops nothing: calls that need none are answered.
func TestRunTxnOfLimitZero(t *testing.T) {
	d := emptyLog(16, 40, 7)
	calls := []impl.TxnCall{beginCall(4), putCall(20, 1), getCall(20), endCall(), checkpointCall(), statusCall()}
	if r := impl.RunTxn(d, calls, 0); r.Stopped || r.Ops != 0 || len(r.Answers) != 6 || !sameDisk(r.Disk, d) {
		t.Error("calls without an operation:", r.Stopped, r.Ops, len(r.Answers))
	}
	for name, last := range map[string]impl.TxnCall{"commit": commitCall(), "begin": beginCall(4)} {
		if r := impl.RunTxn(d, append(slices.Clip(calls), last, statusCall()), 0); !r.Stopped || r.Ops != 0 || len(r.Answers) != 6 || !sameDisk(r.Disk, d) {
			t.Error(name, "that needs one:", r.Stopped, r.Ops, len(r.Answers))
		}
	}
	if r := impl.RunTxn(d, nil, 0); r.Stopped || r.Ops != 0 || len(r.Answers) != 0 || !sameDisk(r.Disk, d) {
		t.Error("no calls:", r.Stopped, r.Ops, len(r.Answers))
	}
	if r := impl.RunTxn(diskWith(40, impl.JSuper{Log: 16, Start: 4, Seq: 7}), calls, 0); !r.Stopped || r.Ops != 0 || len(r.Answers) != 0 {
		t.Error("a recovery that is not begun:", r.Stopped, r.Ops, len(r.Answers))
	}
}

// Drawn calls, odd ones among them, stopped at each operation, on logs of several sizes that hold something or not.
func TestRunTxnDrawn(t *testing.T) {
	t.Parallel()
	draw := rand.New(rand.NewSource(161))
	pressed, opened := 0, 0
	for _, s := range []struct {
		size, blocks int64
		calls, many  int
	}{{16, 22, 200, 12}, {16, 60, 160, 8}, {19, 30, 160, 8}, {20, 40, 160, 8}, {33, 50, 200, 4}, {150, 230, 400, 1}} {
		for range s.many {
			w := callDraw{draw: draw, size: s.size, blocks: s.blocks, frees: draw.Intn(3) > 0}
			d := emptyLog(s.size, int(s.blocks), 1+draw.Int63n(1000))
			if draw.Intn(2) == 0 {
				d = diskWith(int(s.blocks), impl.JSuper{Log: s.size, Start: 1 + draw.Int63n(s.size), Seq: 9}, txnWithin(draw, 9, 2+s.size, int(s.blocks-2-s.size), 4))
			}
			p := checkRunStopped(t, "drawn", d, w.calls(s.calls))
			pressed, opened = pressed+p.pressed, opened+p.opened
		}
	}
	if pressed < 40 || opened < 40 {
		t.Error(pressed, "commits made room,", opened, "were made by begins")
	}
}

// What is got of each home block, and the status, behind every call.
func TestRunTxnGetsAfterEachCall(t *testing.T) {
	t.Parallel()
	draw := rand.New(rand.NewSource(162))
	for range 30 {
		w := callDraw{draw: draw, size: 16, blocks: 26, frees: true}
		var calls []impl.TxnCall
		for _, c := range w.calls(180) {
			calls = append(calls, c, statusCall())
			for b := int64(18); b < 26; b++ {
				calls = append(calls, getCall(b))
			}
		}
		checkRun(t, "gets", emptyLog(16, 26, 5), calls, -1)
	}
}
