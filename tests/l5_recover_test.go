package tests

import (
	"bytes"
	"math"
	"math/rand"
	"slices"
	"testing"

	"loop.example/s01525/impl"
)

// checkHomes is promise 8: the disk behind a complete recovery, block by block, when these transactions are whole.
func checkHomes(t *testing.T, name string, d impl.Disk, txns []impl.Txn) impl.Disk {
	t.Helper()
	super := superKind().parse(d.Durable[64:128]).(impl.JSuper)
	r := impl.Recover(d, -1)
	if r.Code != 0 || r.Stopped || len(r.Disk.Pending) != 0 || len(r.Disk.Durable) != len(d.Durable) || r.Ops != int64(len(impl.RecoverOps(d))) {
		t.Fatalf("%s: code %d, stopped %v, %d operations, %d pending", name, r.Code, r.Stopped, r.Ops, len(r.Disk.Pending))
	}
	want := bytes.Clone(d.Durable)
	if super.Start != 0 {
		copy(want[64:128], superKind().plain(impl.JSuper{Log: super.Log, Seq: super.Seq + 1 + int64(len(txns))}))
	}
	for _, h := range folded(txns) {
		copy(want[h.Block*64:h.Block*64+64], h.Data)
	}
	for b := 0; b < len(want); b += 64 {
		if !bytes.Equal(r.Disk.Durable[b:b+64], want[b:b+64]) {
			t.Fatalf("%s: block %d behind %d transactions is\n%v, not\n%v", name, b/64, len(txns), r.Disk.Durable[b:b+64], want[b:b+64])
		}
	}
	return r.Disk
}

// Promise 8 along courses of logs: whole, torn in the last transaction, bent in a middle one.
func TestRecoverIsTheFold(t *testing.T) {
	t.Parallel()
	draw := rand.New(rand.NewSource(131))
	revoked, kept := 0, 0
	for _, s := range []struct {
		size       int64
		wide, most int
	}{{16, 0, 4}, {17, 0, 12}, {40, 0, 6}, {100, 3, 10}, {150, 130, 128}} {
		c := newCourse(s.size, 1+draw.Int63n(s.size), 1+draw.Int63n(50)).widened(s.wide)
		checkHomes(t, "new", c.disk, nil)
		for range 40 {
			x := c.drawOn(t, draw, s.most)
			before, ahead := c.disk, c.since
			ops := impl.AppendOps(c.log, x)
			first := c.log.Start == 0
			c.take(t, x)
			checkHomes(t, "whole", c.disk, c.since)
			checkJournal(t, "whole", c.disk)
			if !first {
				d := impl.DiskDo(before, ops, int64(len(ops)-1))
				keep := slices.Repeat([]int64{1}, len(d.Pending))
				keep[draw.Intn(2)*(len(keep)-1)] = 0
				checkHomes(t, "torn", impl.DiskCrash(d, keep), ahead)
			}
			i := draw.Intn(len(c.since))
			at := 1 + stepOn(c.begins[i], draw.Int63n(impl.TxnLength(c.since[i])), c.log.Size)
			checkHomes(t, "bent", diskLike(c.disk, at, draw.Intn(64), 1<<draw.Intn(8)), c.since[:i])
			copies := 0
			for _, x := range c.since {
				copies += len(x.Homes)
			}
			kept += len(folded(c.since))
			revoked += copies - len(folded(c.since))
		}
	}
	if revoked < 500 || kept < 500 {
		t.Error(revoked, "copies were revoked or followed by others,", kept, "were kept")
	}
}

// Transactions by hand, and the homes that they leave: the byte of each of blocks 18 to 23, or 0 where it is as it was.
func TestRecoverByHand(t *testing.T) {
	x := func(seq int64, homes []impl.Home, revokes ...int64) impl.Txn {
		return impl.Txn{Seq: seq, Homes: homes, Revokes: revokes}
	}
	for name, c := range map[string]struct {
		txns []impl.Txn
		want [6]byte
	}{
		"none":                          {nil, [6]byte{}},
		"the first and the last block":  {[]impl.Txn{x(7, []impl.Home{home(18, 1), home(23, 2)})}, [6]byte{1, 0, 0, 0, 0, 2}},
		"several times":                 {[]impl.Txn{x(7, []impl.Home{home(20, 1)}), x(8, []impl.Home{home(20, 2)}), x(9, []impl.Home{home(20, 3)})}, [6]byte{0, 0, 3}},
		"revoked later":                 {[]impl.Txn{x(7, []impl.Home{home(20, 1), home(21, 2)}), x(8, nil, 20)}, [6]byte{0, 0, 0, 2}},
		"revoked, and put again":        {[]impl.Txn{x(7, []impl.Home{home(20, 1)}), x(8, nil, 20), x(9, []impl.Home{home(20, 5)})}, [6]byte{0, 0, 5}},
		"revoked ahead":                 {[]impl.Txn{x(7, nil, 20), x(8, []impl.Home{home(20, 5)})}, [6]byte{0, 0, 5}},
		"revokes alone":                 {[]impl.Txn{x(7, nil, 18, 20), x(8, nil, 23)}, [6]byte{}},
		"all is revoked":                {[]impl.Txn{x(7, []impl.Home{home(18, 1), home(23, 2)}), x(8, nil, 18, 23)}, [6]byte{}},
		"one with homes and revokes":    {[]impl.Txn{x(7, []impl.Home{home(18, 1), home(19, 2)}), x(8, []impl.Home{home(20, 3)}, 18, 21)}, [6]byte{0, 2, 3}},
		"the second is of other number": {[]impl.Txn{x(7, []impl.Home{home(18, 1)}), x(9, []impl.Home{home(19, 2)})}, [6]byte{1}},
	} {
		for start := int64(1); start <= 16; start++ {
			d := diskWith(24, impl.JSuper{Log: 16, Start: start, Seq: 7}, c.txns...)
			whole := c.txns
			if name == "the second is of other number" {
				whole = whole[:1]
			}
			behind := checkHomes(t, name, d, whole)
			for i, b := range c.want {
				if b == 0 {
					b = byte(18 + i + 100)
				}
				if !bytes.Equal(behind.Durable[(18+i)*64:(19+i)*64], filled(b)) {
					t.Errorf("%s: block %d is %v", name, 18+i, behind.Durable[(18+i)*64])
				}
			}
			checkJournal(t, name, d)
		}
	}
}

// The operations: homes in order and a flush, none of both if nothing survives, the superblock and a flush.
func TestRecoverOpsByHand(t *testing.T) {
	super := func(seq int64) impl.Op {
		return impl.Op{Kind: 1, Block: 1, Data: superKind().plain(impl.JSuper{Log: 16, Seq: seq})}
	}
	d := diskWith(24, impl.JSuper{Log: 16, Start: 12, Seq: 7}, put(home(22, 1)), impl.Txn{Seq: 8, Homes: []impl.Home{home(19, 2)}, Revokes: []int64{23}})
	want := []impl.Op{{Kind: 1, Block: 19, Data: filled(2)}, {Kind: 1, Block: 22, Data: filled(1)}, {Kind: 2}, super(10), {Kind: 2}}
	if got := impl.RecoverOps(d); value(got) != value(want) {
		t.Error("two homes:", placesOf(got))
	}
	for name, d := range map[string]impl.Disk{
		"nothing found": diskWith(24, impl.JSuper{Log: 16, Start: 12, Seq: 9}, put(home(22, 1))),
		"revokes alone": diskWith(24, impl.JSuper{Log: 16, Start: 12, Seq: 8}, impl.Txn{Seq: 8, Revokes: []int64{20}}),
		"all revoked":   diskWith(24, impl.JSuper{Log: 16, Start: 12, Seq: 7}, put(home(22, 1)), impl.Txn{Seq: 8, Revokes: []int64{22}}),
	} {
		found := int64(len(impl.ScanLog(d).Txns))
		seq := impl.ScanLog(d).Super.Seq
		if got := impl.RecoverOps(d); value(got) != value([]impl.Op{super(seq + 1 + found), {Kind: 2}}) {
			t.Error(name, placesOf(got))
		}
	}
	if got := impl.RecoverOps(diskWith(24, impl.JSuper{Log: 16, Start: 0, Seq: 7}, put(home(22, 1)))); len(got) != 0 {
		t.Error("start 0:", placesOf(got))
	}
	if got := impl.RecoverOps(impl.DiskWrite(d, 20, filled(1))); len(got) != 0 {
		t.Error("a pending write:", placesOf(got))
	}
}

// Limits: none, some, all, too many, and the ends of the numbers.
func TestRecoverLimits(t *testing.T) {
	d := diskWith(24, impl.JSuper{Log: 16, Start: 12, Seq: 7}, put(home(19, 1), home(22, 2)), impl.Txn{Seq: 8, Homes: []impl.Home{home(20, 3)}, Revokes: []int64{23}})
	f := plainFound(d)
	ops := plainRecoverOps(f)
	if len(ops) != 6 {
		t.Fatal("three homes, a flush, the superblock, a flush:", placesOf(ops))
	}
	for _, c := range []struct {
		limit   int64
		stopped bool
		done    int64
		pending int
	}{
		{-1, false, 6, 0}, {0, true, 0, 0}, {1, true, 1, 1}, {2, true, 2, 2}, {3, true, 3, 3}, {4, true, 4, 0}, {5, true, 5, 1}, {6, false, 6, 0}, {7, false, 6, 0},
		{math.MinInt64, false, 6, 0}, {math.MaxInt64, false, 6, 0}, {-2, false, 6, 0}, {1 << 32, false, 6, 0}, {1<<32 + 1, false, 6, 0}, {-1 << 32, false, 6, 0},
	} {
		got := impl.Recover(d, c.limit)
		if got.Code != 0 || got.Stopped != c.stopped || got.Ops != c.done || len(got.Disk.Pending) != c.pending {
			t.Errorf("limit %d: code %d, stopped %v, %d done, %d pending", c.limit, got.Code, got.Stopped, got.Ops, len(got.Disk.Pending))
		}
		checkRecover(t, "limits", d, f, ops, c.limit)
	}
	empty := diskWith(24, impl.JSuper{Log: 16, Seq: 7}, put(home(19, 1)))
	broken := impl.Disk{Durable: make([]byte, 65)}
	for _, limit := range []int64{math.MinInt64, -1, 0, 1, 2, math.MaxInt64} {
		if got := impl.Recover(empty, limit); value(got) != value(impl.Recovered{Disk: empty}) {
			t.Errorf("start 0, limit %d: code %d, stopped %v, %d done", limit, got.Code, got.Stopped, got.Ops)
		}
		for code, d := range map[int64]impl.Disk{
			1: impl.DiskWrite(d, 20, filled(1)), 2: numbered(24), 3: diskWith(24, impl.JSuper{Log: 16, Start: 12, Seq: 4294867296}, put(home(19, 1))),
		} {
			if got := impl.Recover(d, limit); value(got) != value(impl.Recovered{Code: code}) {
				t.Errorf("limit %d: code %d, not %d, stopped %v, %d done", limit, got.Code, code, got.Stopped, got.Ops)
			}
		}
		if got := impl.Recover(broken, limit); value(got) != value(impl.Recovered{Code: 1}) {
			t.Error("no disk", got.Code)
		}
	}
}

// stops are the disks that a recovery of d leaves, stopped at any operation and crashed with some writes kept.
func stops(draw *rand.Rand, d impl.Disk) []impl.Disk {
	var out []impl.Disk
	for limit := range int64(len(impl.RecoverOps(d)) + 1) {
		r := impl.Recover(d, limit)
		for _, keep := range someKeeps(draw, len(r.Disk.Pending)) {
			out = append(out, impl.DiskCrash(r.Disk, keep))
		}
	}
	return out
}

// Promise 9, each stop and each choice of writes, four times in a row, of small logs: every disk that is come to ends alike.
func TestRecoverStoppedEverywhere(t *testing.T) {
	draw := rand.New(rand.NewSource(141))
	for i, txns := range [][]impl.Txn{
		nil,
		{put(home(20, 1))},
		{put(home(20, 1), home(21, 2)), {Seq: 8, Homes: []impl.Home{home(20, 3), home(23, 4)}, Revokes: []int64{18}}},
		{put(home(18, 1), home(19, 2), home(20, 3)), {Seq: 8, Homes: []impl.Home{home(22, 3)}, Revokes: []int64{20}}, {Seq: 9, Homes: []impl.Home{home(23, 5)}}},
		{gone(20, 21), {Seq: 8, Revokes: []int64{22}}},
	} {
		d := diskWith(24, impl.JSuper{Log: 16, Start: 15, Seq: 7}, txns...)
		end := checkHomes(t, "never stopped", d, txns)
		seen := map[string]bool{string(d.Durable): true}
		last := []impl.Disk{d}
		for round := range 4 {
			var next []impl.Disk
			for _, d := range last {
				for _, s := range stops(draw, d) {
					if !seen[string(s.Durable)] {
						seen[string(s.Durable)] = true
						next = append(next, s)
					}
				}
			}
			for _, s := range next {
				if got := impl.Recover(s, -1); got.Code != 0 || got.Stopped || !sameDisk(got.Disk, end) {
					t.Fatalf("log %d: stopped %d times, it comes to another end", i, round+1)
				}
			}
			last = next
		}
		if !seen[string(end.Durable)] || len(seen) < 2 {
			t.Error("log", i, "came to", len(seen), "disks")
		}
		if got := impl.Recover(end, -1); value(got) != value(impl.Recovered{Disk: end}) {
			t.Error("a recovery of what is recovered does something:", got.Ops)
		}
	}
}

// Promise 9 of drawn logs, whole, torn and bent: up to four stops in a row at drawn operations.
func TestRecoverStoppedAgainAndAgain(t *testing.T) {
	t.Parallel()
	draw := rand.New(rand.NewSource(142))
	most := 0
	for _, s := range []struct {
		size             int64
		wide, most, many int
	}{{16, 0, 5, 30}, {40, 0, 8, 20}, {100, 60, 40, 8}, {512, 1000, 128, 3}} {
		c := newCourse(s.size, 1+draw.Int63n(s.size), 1+draw.Int63n(1000)).widened(s.wide)
		for range s.many {
			c.take(t, c.drawOn(t, draw, s.most))
			for _, d := range []impl.Disk{c.disk, diskLike(c.disk, 2+draw.Int63n(s.size), draw.Intn(64), 4)} {
				end := checkHomes(t, "never stopped", d, plainFound(d).Txns)
				most = max(most, len(impl.RecoverOps(d)))
				for range 12 {
					stopDrawn(t, draw, d, end)
				}
			}
		}
	}
	if most < 100 {
		t.Error("the longest recovery had", most, "operations")
	}
}

// stopDrawn stops a recovery one to four times, and then completes it.
func stopDrawn(t *testing.T, draw *rand.Rand, d, end impl.Disk) {
	t.Helper()
	for range 1 + draw.Intn(4) {
		r := impl.Recover(d, draw.Int63n(int64(len(impl.RecoverOps(d))+1)))
		keep := make([]int64, len(r.Disk.Pending))
		for i := range keep {
			keep[i] = draw.Int63n(2)
		}
		d = impl.DiskCrash(r.Disk, keep)
	}
	r := impl.Recover(d, -1)
	if r.Code != 0 || r.Stopped || !sameDisk(r.Disk, end) {
		t.Fatal("a recovery that was stopped comes to another end, code", r.Code)
	}
	if again := impl.Recover(r.Disk, -1); value(again) != value(impl.Recovered{Disk: end}) {
		t.Fatal("a recovery of what is recovered does something:", again.Ops)
	}
}

// The largest number that promise 9 speaks of, and numbers beyond it, up to where a recovered log cannot be read any more.
func TestRecoverAtLargeNumbers(t *testing.T) {
	for _, c := range []struct{ seq, again int64 }{{4294767295, 0}, {4294867293, 0}, {4294867294, 3}, {4294867295, 3}} {
		d := diskWith(24, impl.JSuper{Log: 16, Start: 1, Seq: c.seq}, impl.Txn{Seq: c.seq, Homes: []impl.Home{home(20, 1)}})
		end := checkHomes(t, "a large number", d, plainFound(d).Txns)
		if got := impl.DecodeJSuper(end.Durable[64:128]); got.Super != (impl.JSuper{Log: 16, Seq: c.seq + 2}) {
			t.Error("number", c.seq, "leads to", got.Super)
		}
		if got := impl.Recover(end, -1); got.Code != c.again {
			t.Error("number", c.seq, "and then code", got.Code)
		}
		checkJournal(t, "recovered", end)
	}
}

// The number behind the last whole transaction is left out: what was torn never fits again.
func TestRecoverLeavesANumberOut(t *testing.T) {
	c := newCourse(16, 1, 7)
	c.take(t, txnOf(7, []int64{20}, nil))
	x := txnOf(8, []int64{21, 22}, nil)
	torn := impl.DiskCrash(impl.DiskDo(c.disk, impl.AppendOps(c.log, x), 4), []int64{1, 1, 0, 1})
	d := impl.Recover(torn, -1).Disk
	super := impl.ScanLog(d).Super
	if super != (impl.JSuper{Log: 16, Seq: 9}) {
		t.Fatal("the superblock is", super)
	}
	// The next one stands just where the torn one's blocks stand, and its operations are stopped too.
	l := impl.Log{Size: 16, Seq: 9, Head: 4}
	y := txnOf(9, []int64{21, 22}, nil)
	ops := impl.AppendOps(l, y)
	for limit := range int64(len(ops)) {
		s := impl.DiskDo(d, ops, limit)
		eachChoice(len(s.Pending), 2, func(keep []int64) {
			crashed := impl.DiskCrash(s, keep)
			// The first copy of the torn one stands there already, with the same bytes.
			whole := len(keep) == 4 && keep[0] == 1 && keep[2] == 1 && keep[3] == 1
			if got := impl.ScanLog(crashed); got.Code != 0 || (len(got.Txns) == 1) != whole {
				t.Fatal("limit", limit, "keep", keep, "finds", len(got.Txns))
			}
		})
	}
}

// A log can hold more than 10000 revokes after all. What recovery writes is what Survivors tells: nothing then.
func TestRecoverOfMoreThanSurvivorsTakes(t *testing.T) {
	for _, c := range []struct {
		last, writes int
	}{{14, 1}, {15, 1}, {16, 0}, {26, 0}} {
		txns := []impl.Txn{{Seq: 7, Homes: []impl.Home{home(2000, 1)}}}
		for range 78 {
			txns = append(txns, impl.Txn{Seq: int64(7 + len(txns)), Revokes: runOf(600, 128)})
		}
		txns = append(txns, impl.Txn{Seq: int64(7 + len(txns)), Revokes: runOf(900, c.last)})
		d := diskWith(2048, impl.JSuper{Log: 512, Start: 500, Seq: 7}, txns...)
		f := impl.ScanLog(d)
		if value(f.Txns) != value(txns) {
			t.Fatal("not all are found:", len(f.Txns))
		}
		ops := impl.RecoverOps(d)
		if len(impl.Survivors(f.Txns)) != c.writes || value(ops) != value(plainRecoverOps(f)) || len(ops) != 2+2*c.writes {
			t.Error("of", 1+78*128+c.last, "homes and revokes the operations are", placesOf(ops))
		}
	}
}

// The most that a log can hold: as many homes as there are positions for.
func TestRecoverOfManyHomes(t *testing.T) {
	t.Parallel()
	var txns []impl.Txn
	for i, n := range []int{128, 128, 128, 94} {
		txns = append(txns, txnOf(int64(7+i), runOf(int64(600+200*i), n), nil))
	}
	d := diskWith(2048, impl.JSuper{Log: 512, Start: 300, Seq: 7}, txns...)
	f := checkJournal(t, "many homes", d)
	if len(f.Txns) != 4 || len(impl.RecoverOps(d)) != 478+3 {
		t.Error(len(f.Txns), "found,", len(impl.RecoverOps(d)), "operations")
	}
	checkHomes(t, "many homes", d, txns)
}
