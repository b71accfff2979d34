package tests

import (
	"bytes"
	"fmt"
	"slices"
	"strings"
	"testing"

	"loop.example/s01525/impl"
)

// A mount has a code only if a torn transaction passes for a whole one (the premise of promise 7 is not met). So here the bytes of a
// file stand in the log where the copy of the map of inodes is to come, and have the same sum; and that copy is lost in the crash.

// forged are 64 bytes that have the sum of those given, wherever they stand; none of the first 60 is the same.
func forged(b []byte) []byte {
	out := bytes.Clone(b)
	for i := range out[:60] {
		out[i] ^= byte(0x41 + i)
	}
	want := impl.Crc(b)
	// Each bit of the last four bytes changes the sum in a way of its own: those are found that make up for the others.
	var rows [32][2]int64
	for bit := range 32 {
		turned := bytes.Clone(out)
		turned[60+bit/8] ^= 1 << (bit % 8)
		rows[bit] = [2]int64{impl.Crc(turned) ^ impl.Crc(out), 1 << bit}
	}
	left, chosen := impl.Crc(out)^want, int64(0)
	for at := range 32 {
		mask := int64(1) << at
		first := slices.IndexFunc(rows[at:], func(r [2]int64) bool { return r[0]&mask != 0 }) + at
		rows[at], rows[first] = rows[first], rows[at]
		for i := range rows {
			if i != at && rows[i][0]&mask != 0 {
				rows[i][0], rows[i][1] = rows[i][0]^rows[at][0], rows[i][1]^rows[at][1]
			}
		}
		if left&mask != 0 {
			left, chosen = left^rows[at][0], chosen^rows[at][1]
		}
	}
	for bit := range 32 {
		if chosen>>bit&1 == 1 {
			out[60+bit/8] ^= 1 << (bit % 8)
		}
	}
	return out
}

// forgery is a script up to the sync whose transaction, one block of which is lost, passes for a whole one.
type forgery struct {
	calls []impl.Call
	// writes are how many blocks the transaction has, lost is the place of the lost one among them.
	writes, lost int
}

func forgedGeometry() impl.Geometry { return impl.Geometry{Blocks: 60, Log: 24, Inodes: 8} }

// forgedScript looks for calls behind which the map of inodes comes to stand where the bytes of a file stood.
func forgedScript(t *testing.T) forgery {
	t.Helper()
	g := forgedGeometry()
	place := strings.Repeat("~", 64)
	logBlock := func(d impl.Disk, p int64) string { return string(d.Durable[(1+p)*64:][:64]) }
	for turns := range 60 {
		calls := []impl.Call{creating("/f"), writing("/f", 0, place), checkpointing()}
		for i := range turns {
			calls = append(calls, truncating("/f", int64(64+i%2)), checkpointing())
		}
		calls = append(calls, creating("/g"))
		ahead := impl.Run(impl.Mkfs(g), calls, -1).Disk
		behind := impl.Run(impl.Mkfs(g), append(slices.Clip(calls), syncing()), -1).Disk
		// Behind a checkpoint the log has this one transaction.
		found := impl.ScanLog(behind)
		for _, line := range impl.Dump(behind) {
			if line.Kind != impl.KindCopy || line.Txn != 1 || line.Block != 2+g.Log || logBlock(ahead, line.Position) != place {
				continue
			}
			calls[1].Data = string(forged([]byte(logBlock(behind, line.Position))))
			if again := impl.Run(impl.Mkfs(g), calls, -1).Disk; logBlock(again, line.Position) != calls[1].Data {
				t.Fatal("the bytes of the file do not stand where they are to stand")
			}
			return forgery{calls: calls, writes: int(impl.TxnLength(found.Txns[0])), lost: int((line.Position - found.Super.Start + g.Log) % g.Log)}
		}
	}
	t.Fatal("no such calls were found")
	return forgery{}
}

// lines are the script, with the crash in its sync: all blocks of the transaction are kept, or all but the one.
func (f forgery) lines(whole bool) []string {
	var lines []string
	for _, c := range f.calls {
		lines = append(lines, said(c))
	}
	keep := slices.Repeat([]string{"1"}, f.writes)
	if !whole {
		keep[f.lost] = "0"
	}
	g := forgedGeometry()
	ops := impl.Run(impl.Mkfs(g), append(slices.Clip(f.calls), syncing()), -1).Ops - impl.Run(impl.Mkfs(g), f.calls, -1).Ops
	return append(lines, fmt.Sprint("arm ", ops, " ", strings.Join(keep, " ")), "sync")
}

func TestForgedSum(t *testing.T) {
	for seed := range int64(40) {
		b := drawn(64, seed)
		f := forged(b)
		ahead, behind := drawn(70, seed+1), drawn(33, seed+2)
		if bytes.Equal(f[:60], b[:60]) || impl.Crc(slices.Concat(ahead, b, behind)) != impl.Crc(slices.Concat(ahead, f, behind)) {
			t.Fatal("the sums are not the same, seed", seed)
		}
	}
}

// A mount with a code counts no operation, and leaves the disk as it was: in the log there is still the transaction that makes it so.
func TestServeMountWithCode(t *testing.T) {
	g := forgedGeometry()
	f := forgedScript(t)
	serve := func(name string, whole bool, behind ...string) []string {
		t.Helper()
		lines := f.lines(whole)
		reply := checkServe(t, name, g, append(lines, behind...)...)
		if reply[len(lines)-1] != "crashed" {
			t.Fatalf("%s: the sync is answered by %s", name, reply[len(lines)-1])
		}
		return reply[len(lines):]
	}
	same := func(name string, got []string, want ...string) {
		t.Helper()
		if !slices.Equal(got, want) {
			t.Errorf("%s: %q, not %q", name, got, want)
		}
	}
	same("whole", serve("whole", true, "check", "mount", "list /"), "check", "mounted", "names f g")
	// The disk itself is whole as long as the log is not carried out.
	same("torn", serve("torn", false, "check", "mount", "check", "mount", "list /", "tree", "crash 1 1 1", "mount", "check", "x"), "check", "error 5", "check", "error 5", "down", "down", "crashed", "error 5", "check", "bad")
	// Recovery writes the transaction's homes, flushes, writes the superblock, flushes.
	ops := f.writes - 2 + 3
	for n := 1; n <= ops; n++ {
		reply := serve(fmt.Sprint("arm ", n), false, fmt.Sprint("arm ", n), "mount", "mount", "mount")
		same(fmt.Sprint("arm ", n), reply, "armed", "crashed", "error 5", "error 5")
		serve(fmt.Sprint("arm ", n, ", kept"), false, fmt.Sprint("arm ", n, ones(600)), "mount", "check", "mount", "check", "mount")
	}
	// The recovery's last operation is not armed: its code is told, as often as it is asked for, and it counts nothing.
	arm := fmt.Sprint("arm ", ops+1, " 1")
	same("beyond", serve("beyond", false, arm, "mount", "mount", "check", "crash", "mount", fmt.Sprint("arm ", ops), "mount", "check", "mount"), "armed", "error 5", "error 5", "check", "crashed", "error 5", "armed", "crashed", rulesCarriedOut(t, f), "error 5")
}

// rulesCarriedOut is what is told of the disk when the transaction was carried out, and the crash came in the last flush, with nothing
// kept: the map of inodes is none.
func rulesCarriedOut(t *testing.T, f forgery) string {
	t.Helper()
	m := newPlainMachine(forgedGeometry())
	for _, line := range append(f.lines(false), fmt.Sprint("arm ", f.writes+1), "mount") {
		m.answer(plainLine([]byte(line)))
	}
	if rules := impl.Check(m.disk); !slices.Contains(rules, 14) {
		t.Fatal("the rules that do not hold are", rules)
	}
	return m.answer(impl.Line{Kind: impl.LineCheck})
}
