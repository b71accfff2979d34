package tests

import (
	"fmt"
	"math"
	"slices"
	"strings"
	"testing"

	"loop.example/s01525/impl"
)

// codesOfRun are those of the answers.
func codesOfRun(r impl.RunResult) []int64 {
	var codes []int64
	for _, a := range r.Answers {
		codes = append(codes, a.Code)
	}
	return codes
}

// grown is a disk behind some calls, all of which are to succeed, with all of it at its home.
func grown(t *testing.T, d impl.Disk, calls ...impl.Call) impl.Disk {
	t.Helper()
	r := impl.Run(d, append(slices.Clip(calls), checkpointing()), -1)
	for i, a := range r.Answers {
		if a.Code != 0 && i < len(calls) {
			t.Fatalf("call %d, %+v, has the code %d", i, calls[i], a.Code)
		}
	}
	if len(r.Answers) != len(calls)+1 {
		t.Fatal("the run has the code", r.Code)
	}
	return r.Disk
}

func TestCodesOfTheDocument(t *testing.T) {
	codes := []int64{
		impl.ErrNoEntry, impl.ErrNotDir, impl.ErrIsDir, impl.ErrExists, impl.ErrNotEmpty, impl.ErrRoot, impl.ErrInside, impl.ErrDepth, impl.ErrRange, impl.ErrTooBig, impl.ErrNoSpace, impl.ErrCredit,
		impl.ErrCall, impl.ErrLinks, impl.ErrNotLink, impl.ErrLoop, impl.ErrHandle, impl.ErrHandles,
	}
	if !slices.Equal(codes, runOf(32, 18)) {
		t.Error(codes)
	}
	kinds := []int64{
		impl.CallCreate, impl.CallMkdir, impl.CallUnlink, impl.CallRmdir, impl.CallRename, impl.CallWrite, impl.CallTruncate, impl.CallAppend, impl.CallLink, impl.CallSymlink, impl.CallPwrite, impl.CallFtruncate, impl.CallClose,
		impl.CallOpen, impl.CallPread, impl.CallFstat, impl.CallRead, impl.CallStat, impl.CallLstat, impl.CallList, impl.CallReadlink, impl.CallSync, impl.CallCheckpoint, impl.CallSpace, impl.CallLog,
	}
	if !slices.Equal(kinds, runOf(1, 25)) || impl.MaxCalls != 1000 || impl.MaxFollow != 8 || impl.MaxHandles != 8 {
		t.Error(kinds)
	}
}

// The example of 12.5, call by call: credits, and how large the running transaction is behind each call.
func TestRunExample(t *testing.T) {
	calls := []impl.Call{mkdir("/a"), creating("/a/f"), writing("/a/f", 0, "xyz")}
	credits, running := []int64{5, 5, 3}, []int64{4, 6, 7}
	for i, c := range calls {
		d := newDisk(60, 40, 8)
		if got := impl.Credits(grown(t, d, calls[:i]...), c); got != credits[i] {
			t.Error("call", i, "has", got, "credits")
		}
		r := impl.Run(d, append(slices.Clone(calls[:i+1]), logNow()), -1)
		if want := (impl.TxnState{Seq: 1, Head: 1, Running: running[i]}); r.Answers[i+1].State != want || r.Ops != 0 {
			t.Error("behind call", i, r.Answers[i+1].State, r.Ops)
		}
	}
	s := checkSystemStopped(t, "the example", newDisk(60, 40, 8), append(calls, syncing(), logNow()))
	x := impl.ScanLog(impl.Run(newDisk(60, 40, 8), append(calls, syncing()), -1).Disk)
	var homes []int64
	for _, h := range x.Txns[0].Homes {
		homes = append(homes, h.Block)
	}
	// the maps, two blocks of the table, the root's block, a's and f's
	if len(x.Txns) != 1 || !slices.Equal(homes, []int64{42, 43, 44, 45, 48, 49, 50}) || len(x.Txns[0].Revokes) != 0 || !slices.Equal(s.commits, []int64{4}) {
		t.Error(homes, x.Txns[0].Revokes, s.commits)
	}
	if s.told[4].State != (impl.TxnState{Seq: 2, Head: 10, Used: 9, Committed: 7}) {
		t.Error(s.told[4].State)
	}
	small := newDisk(60, 16, 8)
	if r := impl.Run(small, append(calls, syncing()), -1); !slices.Equal(codesOfRun(r), []int64{impl.ErrCredit, impl.ErrNoEntry, impl.ErrNoEntry, 0}) || r.Ops != 0 || impl.Credits(small, calls[0]) != 5 {
		t.Error("a limit of 4:", codesOfRun(r), r.Ops, impl.Credits(small, calls[0]))
	}
}

// soleBreaks are disks that break one rule alone.
func soleBreaks(t *testing.T) map[int64]impl.Disk {
	t.Helper()
	root := laid(impl.Geometry{Blocks: 60, Log: 16, Inodes: 8}, map[int64]item{1: fileOf(0, "")})
	torn := func() impl.Disk {
		m := withEntry(20, "x")
		m.setInode(20, inodeOf(2, 1, 16, m.free[0]))
		m.put(m.free[0], 0, []byte(strings.Repeat("x", 16))...)
		m.setMaps()
		return m.disk
	}
	file := sizedFile(1, 30)
	disks := map[int64]impl.Disk{
		1:  {Durable: sample().disk.Durable[:600*64-1]},
		2:  harmed(func(m *made) { m.put(0, 20, 1) }),
		3:  harmed(func(m *made) { m.put(1, 0, superKind().plain(impl.JSuper{Log: 63, Seq: 1})...) }),
		4:  harmed(func(m *made) { m.put(69, 19*32, 7) }),
		5:  root.disk,
		6:  harmedMaps(func(m *made) { m.change(5, func(i *impl.Inode) { i.Direct[0] = 84 }) }),
		7:  harmedMaps(func(m *made) { m.setList(4, m.inodes[4], make([]int64, 32)) }),
		8:  harmedMaps(func(m *made) { m.changeList(5, 31, 92) }),
		9:  torn(),
		10: withEntry(31, "x").disk,
		11: withEntry(7, "x").disk,
		12: sampleWith(map[int64]item{20: dirOf()}).disk,
		13: laid(impl.Geometry{Blocks: 400, Log: 16, Inodes: 100}, chain(16, &file)).disk,
		14: harmed(func(m *made) { m.turnBit(m.p.InodeMap, 511) }),
		15: harmed(func(m *made) { m.turnBit(m.p.BlockMap, 599) }),
		16: harmed(func(m *made) { m.put(m.blockAt(3, 1), 63, 1) }),
		17: harmed(func(m *made) { m.change(3, func(i *impl.Inode) { i.Links = 3 }) }),
		18: sampleWith(map[int64]item{6: linkTo(1, "a")}).disk,
		19: sampleWith(map[int64]item{13: sizedFile(0, 13*64)}).disk,
	}
	for rule, d := range disks {
		if got := plainCheck(d); !slices.Equal(got, []int64{rule}) {
			t.Error("a disk that is to break rule", rule, "breaks", got)
		}
	}
	if len(disks) != 19 {
		t.Error("there are 19 rules")
	}
	return disks
}

// refused asks all four functions about a disk that cannot be mounted, or calls that are too many.
func refused(t *testing.T, name string, d impl.Disk, calls []impl.Call, code int64) {
	t.Helper()
	for _, limit := range []int64{-1, 0, 1, 1000, math.MinInt64, math.MaxInt64} {
		if r := impl.Run(d, calls, limit); value(r) != value(impl.RunResult{Code: code}) {
			t.Errorf("%s: Run with the limit %d has the code %d, not %d, or tells more", name, limit, r.Code, code)
		}
	}
	if o := impl.Tree(d, calls); o.Code != code || len(o.Nodes) != 0 {
		t.Errorf("%s: Tree has the code %d, and %d nodes", name, o.Code, len(o.Nodes))
	}
	if c := impl.Commits(d, calls); len(c) != 0 {
		t.Errorf("%s: Commits tells %v", name, c)
	}
	if len(calls) <= 1000 {
		for _, c := range []impl.Call{mkdir("/x"), listOf("/"), {}, closing(1)} {
			if n := impl.Credits(d, c); n != -1 {
				t.Errorf("%s: Credits tells %d", name, n)
			}
		}
		checkSystem(t, name, d, calls)
	}
}

func TestRunCodes(t *testing.T) {
	few, many := slices.Repeat([]impl.Call{spaceLeft()}, 1000), slices.Repeat([]impl.Call{spaceLeft()}, 1001)
	if r := impl.Run(newDisk(60, 40, 8), few, -1); r.Code != 0 || len(r.Answers) != 1000 || r.Answers[999].Stat != (impl.Stat{Size: 7, Blocks: 12}) {
		t.Error("1000 calls:", r.Code, len(r.Answers))
	}
	for name, d := range map[string]impl.Disk{"a new disk": newDisk(60, 40, 8), "no disk": {}, "zeros": impl.NewDisk(60)} {
		refused(t, "1001 calls on "+name, d, many, impl.ErrCall)
	}
	d := newDisk(60, 40, 8)
	pending := impl.DiskWrite(d, 30, filled(3))
	super := func(d impl.Disk, j impl.JSuper) impl.Disk { return poked(d, 64, superKind().plain(j)...) }
	badSuper := poked(d, 20, 1)
	for name, c := range map[string]struct {
		d    impl.Disk
		code int64
	}{
		"no disk":                     {impl.Disk{}, impl.ErrDisk},
		"a piece of a block":          {impl.Disk{Durable: d.Durable[:60*64-1]}, impl.ErrDisk},
		"too many blocks":             {impl.Disk{Durable: make([]byte, 2049*64)}, impl.ErrDisk},
		"a write pending":             {pending, impl.ErrDisk},
		"a write of no block":         {impl.Disk{Durable: d.Durable, Pending: []impl.Write{{Block: 60, Data: filled(0)}}}, impl.ErrDisk},
		"pending, and no journal":     {poked(pending, 64, 0), impl.ErrDisk},
		"zeros":                       {impl.NewDisk(60), impl.ErrJournal},
		"one block":                   {impl.NewDisk(1), impl.ErrJournal},
		"no journal, no superblock":   {poked(poked(d, 64, 0), 0, 0), impl.ErrJournal},
		"a log beyond the disk":       {super(d, impl.JSuper{Log: 59, Seq: 1}), impl.ErrJournal},
		"a number too large":          {super(d, impl.JSuper{Log: 40, Seq: 4294867296}), impl.ErrSeq},
		"the largest number":          {super(d, impl.JSuper{Log: 40, Seq: 4294967295}), impl.ErrSeq},
		"too large, no superblock":    {super(badSuper, impl.JSuper{Log: 40, Seq: 4294867296}), impl.ErrSeq},
		"a superblock that is none":   {badSuper, impl.ErrSuper},
		"another disk's superblock":   {poked(d, 0, geometryKind().plain(impl.Geometry{Blocks: 61, Log: 40, Inodes: 8})...), impl.ErrSuper},
		"a disk of a block more":      {impl.Disk{Durable: append(slices.Clone(d.Durable), make([]byte, 64)...)}, impl.ErrSuper},
		"another log":                 {super(d, impl.JSuper{Log: 41, Seq: 1}), impl.ErrSuper},
		"another log, and a bad root": {super(poked(d, 44*64, 1), impl.JSuper{Log: 41, Seq: 1}), impl.ErrSuper},
		"not whole, and no super":     {poked(badSuper, 44*64, 1), impl.ErrSuper},
		"not whole":                   {poked(d, 44*64+40, 1), impl.ErrCorrupt},
	} {
		refused(t, name, c.d, []impl.Call{mkdir("/a"), syncing()}, c.code)
	}
	if r := impl.Run(super(d, impl.JSuper{Log: 40, Seq: 4294867295}), []impl.Call{mkdir("/a"), syncing(), logNow()}, -1); r.Code != 0 || r.Answers[2].State.Seq != 4294867296 {
		t.Error("the largest number that is not too large:", r.Code)
	}
	for rule, d := range soleBreaks(t) {
		code := int64(impl.ErrCorrupt)
		if rule == 1 {
			code = impl.ErrDisk
		} else if rule <= 3 {
			code = impl.ErrSuper
		}
		refused(t, fmt.Sprint("rule ", rule), d, []impl.Call{listOf("/")}, code)
	}
}

// The code is asked of the disk behind recovery, not ahead of it, and not at all if the run has stopped within that.
func TestRunCodesBehindRecovery(t *testing.T) {
	d := impl.Run(newDisk(60, 40, 8), []impl.Call{mkdir("/a"), creating("/f"), syncing()}, -1).Disk
	for _, block := range []int64{42, 43, 44, 45, 48} {
		// All that this has broken stands in the log.
		broken := poked(d, block*64, drawn(64, block)...)
		if len(impl.Check(broken)) == 0 && block != 48 {
			t.Error("block", block, "is not looked at")
		}
		if o := impl.Tree(broken, nil); o.Code != 0 || value(o) != value(impl.Tree(d, nil)) {
			t.Error("block", block, "is mended by recovery, and yet there is the code", o.Code)
		}
		checkSystemStopped(t, "mended", broken, []impl.Call{listOf("/"), creating("/g"), syncing()})
	}
	// Block 46 of the table is not in the log; so this is not whole, ahead of recovery and behind it.
	broken := poked(d, 46*64, 1)
	ops := int64(len(impl.RecoverOps(broken)))
	for limit := range ops + 3 {
		r := impl.Run(broken, []impl.Call{listOf("/")}, limit)
		if limit < ops && (r.Code != 0 || !r.Stopped || r.Ops != limit || len(r.Answers) != 0 || !sameDisk(r.Disk, impl.Recover(broken, limit).Disk)) {
			t.Error("limit", limit, "of", ops, "has the code", r.Code, "and stops behind", r.Ops)
		}
		if limit >= ops && value(r) != value(impl.RunResult{Code: impl.ErrCorrupt}) {
			t.Error("limit", limit, "of", ops, "has the code", r.Code)
		}
	}
	if ops != 8 {
		t.Error("recovery has", ops, "operations")
	}
	// What stands in the log may break a rule as well.
	l := impl.Log{Size: 40, Seq: 1, Head: 1}
	whole := newDisk(60, 40, 8)
	x := impl.Txn{Seq: 1, Homes: []impl.Home{{Block: 42, Data: filled(1)}}}
	bad := impl.DiskDo(whole, impl.AppendOps(l, x), -1)
	if r := impl.Run(bad, nil, -1); r.Code != impl.ErrCorrupt || len(impl.Check(bad)) != 0 {
		t.Error("a log that breaks a rule:", r.Code)
	}
	if r := impl.Run(bad, nil, 1); r.Code != 0 || !r.Stopped {
		t.Error("not as long as it was not carried out:", r.Code)
	}
}

// A limit, as in 6.3: within recovery, within freeing what has no name, within commits and checkpoints, and between them.
func TestRunLimits(t *testing.T) {
	first := []impl.Call{
		creating("/f"), writing("/f", 0, letters(200, 1)), opening("/f"), creating("/g"), writing("/g", 0, letters(100, 2)), opening("/g"), creating("/h"), writing("/h", 0, "h"), opening("/h"), unlinking("/f"), unlinking("/g"), unlinking("/h"), syncing(),
	}
	d := impl.Run(newDisk(60, 28, 8), first, -1).Disk
	calls := []impl.Call{spaceLeft(), mkdir("/a"), creating("/a/f"), checkpointing(), writing("/a/f", 0, letters(100, 3)), creating("/x"), syncing(), unlinking("/a/f"), logNow(), checkpointing(), listOf("/"), syncing()}
	s := checkSystemStopped(t, "all limits", d, calls)
	if len(s.ops) < 40 || s.mounted <= s.marks[0].end || s.marks[0].end == 0 || len(s.commits) < 5 || s.commits[0] != 0 {
		t.Error(len(s.ops), "operations,", s.mounted, "until it is mounted,", s.marks[0].end, "of recovery; commits", s.commits)
	}
	for _, limit := range []int64{-1, -2, math.MinInt64, math.MaxInt64, math.MaxInt64 - 1, int64(len(s.ops)), 4001} {
		sameAnswers(t, "none", limit, calls, impl.Run(d, calls, limit), s.run(len(s.ops), s.after(d, len(s.ops))))
	}
	// A call whose commit is stopped has no answer, and nothing behind it is carried out.
	mount := impl.Run(d, nil, -1).Ops
	r := impl.Run(newDisk(60, 40, 8), []impl.Call{creating("/f"), syncing(), listOf("/")}, 0)
	if len(r.Answers) != 1 || !r.Stopped || r.Ops != 0 || len(r.Disk.Pending) != 0 || int64(s.mounted) != mount {
		t.Error("the sync is stopped:", len(r.Answers), r.Stopped, r.Ops, mount)
	}
	r = impl.Run(newDisk(60, 40, 8), []impl.Call{creating("/f"), syncing(), listOf("/"), syncing(), listOf("/")}, 9)
	if len(r.Answers) != 5 || r.Stopped || r.Ops != 9 {
		t.Error("a sync with nothing to commit does no operation:", len(r.Answers), r.Stopped, r.Ops)
	}
}

// A limit that falls between two calls stops nothing as long as no operation comes up.
func TestRunLimitBetweenCalls(t *testing.T) {
	d := newDisk(60, 40, 8)
	calls := []impl.Call{creating("/f"), syncing(), creating("/g"), listOf("/"), logNow()}
	whole := impl.Run(d, calls[:2], -1).Ops
	r := impl.Run(d, calls, whole)
	if r.Stopped || len(r.Answers) != 5 || r.Ops != whole || r.Answers[4].State.Running != 4 {
		t.Error(r.Stopped, len(r.Answers), r.Ops)
	}
	r = impl.Run(d, append(calls, checkpointing(), spaceLeft()), whole)
	if !r.Stopped || len(r.Answers) != 5 || r.Ops != whole {
		t.Error(r.Stopped, len(r.Answers), r.Ops)
	}
}

func TestCommits(t *testing.T) {
	d := newDisk(60, 20, 8)
	for name, c := range map[string]struct {
		calls []impl.Call
		want  []int64
	}{
		"none":                    {nil, nil},
		"nothing is committed":    {[]impl.Call{creating("/f"), listOf("/"), logNow()}, nil},
		"a sync":                  {[]impl.Call{creating("/f"), spaceLeft(), syncing()}, []int64{3}},
		"a sync of nothing":       {[]impl.Call{syncing(), checkpointing(), creating("/"), syncing()}, nil},
		"two of one change":       {[]impl.Call{creating("/f"), syncing(), syncing(), checkpointing()}, []int64{2}},
		"a checkpoint":            {[]impl.Call{creating("/f"), checkpointing()}, []int64{2}},
		"in step 2":               {[]impl.Call{creating("/f"), writing("/f", 0, "x"), spaceLeft(), creating("/g")}, []int64{1, 3}},
		"a call that is refused":  {[]impl.Call{creating("/f"), creating("/f"), writing("/f", 0, letters(600, 0)), syncing()}, []int64{4}},
		"a call of no credits":    {[]impl.Call{creating("/f"), truncating("/f", 0), renaming("/f", "/f"), writing("/f", 5, ""), syncing(), writing("/f", 0, "x"), writing("/f", 0, "x"), syncing()}, []int64{5, 8}},
		"the running one is full": {[]impl.Call{creating("/f"), mkdir("/a"), creating("/a/g"), syncing()}, []int64{1, 2, 4}},
	} {
		s := checkSystem(t, name, d, c.calls)
		if got := impl.Commits(d, c.calls); !slices.Equal(got, c.want) {
			t.Error(name, got)
		}
		r := impl.Run(d, append(slices.Clip(c.calls), logNow()), -1)
		if grown := r.Answers[len(c.calls)].State.Seq - 1; grown != int64(len(s.commits)) {
			t.Error(name, "the number has grown by", grown)
		}
	}
	// While mounting: with a limit of 5 (and credits of 5, 2, 5, 4) each of these files is committed when the next one is freed.
	nameless := laid(impl.Geometry{Blocks: 60, Log: 20, Inodes: 8}, map[int64]item{1: dirOf(), 2: sizedFile(0, 100), 4: sizedFile(0, 0), 5: sizedFile(0, 128), 8: sizedFile(0, 64)})
	for name, c := range map[string]struct {
		calls []impl.Call
		want  []int64
	}{
		"nothing":  {nil, []int64{0, 0, 0}},
		"a sync":   {[]impl.Call{syncing()}, []int64{0, 0, 0, 1}},
		"a create": {[]impl.Call{creating("/f"), syncing()}, []int64{0, 0, 0, 0, 2}},
	} {
		checkSystemStopped(t, "while mounting, "+name, nameless.disk, c.calls)
		if got := impl.Commits(nameless.disk, c.calls); !slices.Equal(got, c.want) {
			t.Error("while mounting,", name, got)
		}
	}
}
