package tests

import (
	"fmt"
	"slices"
	"strings"
	"testing"

	"loop.example/s01525/impl"
)

// Each change of a file's bytes at all the edges, by its path and by a handle.
func TestPlainBytesOfFiles(t *testing.T) {
	t.Parallel()
	g := impl.Geometry{Blocks: 300, Log: 200, Inodes: 4}
	n := 0
	byteCases(func(c byteCase) {
		calls := append([]impl.Call{creating("/f")}, c.calls...)
		r := impl.PlainRun(g, calls)
		c.check(t, r.Answers)
		if data := r.Answers[len(calls)-2].Data; len(r.Nodes) != 2 || r.Nodes[1].Data != data || r.Nodes[1].Size != 2560 {
			t.Errorf("%s: the nodes are %+v", c.name, r.Nodes)
		}
		if n++; n%17 == 0 {
			checkTree(t, c.name, g, calls)
		}
	})
	if n < 3000 {
		t.Error(n)
	}
}

// Every piece of a file that is read.
func TestPlainReadPieces(t *testing.T) {
	g := impl.Geometry{Blocks: 100, Log: 80, Inodes: 4}
	base, reads, want := readPieces()
	base = append([]impl.Call{creating("/f")}, base...)
	for chunk := range slices.Chunk(reads, 400) {
		calls := slices.Clone(base)
		for _, c := range chunk {
			calls = append(calls, c, byHandle(c))
		}
		for i, a := range checkTree(t, "reads", g, calls).Answers[len(base):] {
			if c := calls[len(base)+i]; value(a) != value(want[i/2]) {
				t.Errorf("%d bytes from %d on: code %d, %d bytes, not %d, %d", c.Size, c.Offset, a.Code, len(a.Data), want[i/2].Code, len(want[i/2].Data))
			}
		}
		want = want[len(chunk):]
	}
	if len(want) > 0 {
		t.Error(len(want), "are left")
	}
}

// What was cut off is never read again: what lies between an old end and a new one is 0.
func TestPlainCutAndLonger(t *testing.T) {
	g := impl.Geometry{Blocks: 60, Log: 40, Inodes: 8}
	for n := range int64(64) {
		calls := []impl.Call{creating("/f"), writing("/f", 0, letters(64, 3)), truncating("/f", n), truncating("/f", 64), reading("/f", 0, 64), truncating("/f", n), appending("/f", "x"), reading("/f", 0, 99), writing("/f", 100, "y"), reading("/f", 0, 100), statOf("/f")}
		a := checkTree(t, fmt.Sprint("cut at ", n), g, calls).Answers
		left := letters(64, 3)[:n]
		if a[4].Data != left+strings.Repeat("\x00", int(64-n)) || a[7].Data != left+"x" || a[9].Data != left+"x"+strings.Repeat("\x00", int(99-n)) || a[10].Stat != (impl.Stat{Kind: 1, Links: 1, Size: 101, Blocks: 2}) {
			t.Errorf("cut at %d: %q %q %q %+v", n, a[4].Data, a[7].Data, a[9].Data, a[10].Stat)
		}
	}
}
