package tests

import (
	"bytes"
	"fmt"
	"math"
	"math/rand"
	"slices"
	"strings"
	"testing"

	"loop.example/s01525/impl"
)

func TestEntryByHand(t *testing.T) {
	for _, c := range []struct {
		entry impl.Entry
		want  []byte
	}{
		{impl.Entry{Inode: 1, Name: "a"}, []byte{0, 1, 1, 97, 0, 0, 0, 0, 0, 0, 0, 0, 0, 0, 0, 0}},
		{impl.Entry{Inode: 256, Name: "~!"}, []byte{1, 0, 2, 126, 33, 0, 0, 0, 0, 0, 0, 0, 0, 0, 0, 0}},
		{impl.Entry{Inode: 255, Name: "abcdefghijklm"}, []byte{0, 255, 13, 97, 98, 99, 100, 101, 102, 103, 104, 105, 106, 107, 108, 109}},
		{impl.Entry{Inode: 2, Name: "..."}, []byte{0, 2, 3, 46, 46, 46, 0, 0, 0, 0, 0, 0, 0, 0, 0, 0}},
	} {
		if got := impl.EncodeEntry(c.entry); !bytes.Equal(got, c.want) {
			t.Errorf("%v: encoded as %v", c.entry, got)
		}
		if got := impl.DecodeEntry(c.want); got != (impl.EntryResult{Good: true, Entry: c.entry}) {
			t.Errorf("%v: decoded as %v", c.entry, got)
		}
	}
}

// turnedEntries have names of 1 and of 13 bytes among them, and the least and the largest inode.
func turnedEntries() []impl.Entry {
	draw := rand.New(rand.NewSource(103))
	list := []impl.Entry{
		{Inode: 1, Name: "a"}, {Inode: 256, Name: "~"}, {Inode: 1, Name: "abcdefghijklm"}, {Inode: 256, Name: "!!!!!!!!!!!!!"}, {Inode: 255, Name: "..."}, {Inode: 16, Name: ".a"},
	}
	for range 6 {
		list = append(list, entryKind().drawn(draw).(impl.Entry))
	}
	return list
}

func oddNames() []string {
	return []string{"", ".", "..", "a/b", "/", "a b", "abcdefghijklmn", "a\x00", "\x7f", "\x80", "\xff\xfe", "é", "abcdefghijkl\x00", strings.Repeat("x", 256), strings.Repeat("x", 257)}
}

// Promise 4: entries, valid or not, there and back.
func TestEntryThereAndBack(t *testing.T) {
	k := entryKind()
	names := oddNames()
	for _, e := range turnedEntries() {
		names = append(names, e.Name)
	}
	for _, name := range names {
		for _, inode := range []int64{math.MinInt64, -255, -1, 0, 1, 2, 128, 255, 256, 257, 258, 512, 65535, 65536, 65537, 1 << 32, math.MaxInt64} {
			checkThing(t, k, impl.Entry{Inode: inode, Name: name})
		}
	}
	draw := rand.New(rand.NewSource(104))
	for range 3000 {
		checkThing(t, k, k.drawn(draw))
	}
}

// Promise 4: with one byte turned, an entry is taken only as another valid one.
func TestEntryTurned(t *testing.T) {
	k := entryKind()
	all := map[int]int{}
	for _, e := range turnedEntries() {
		for at, n := range checkTurned(t, k, e) {
			all[at] += n
		}
	}
	for at := range 16 {
		// No inode but 256 has a first byte, and that one has no other; a name does not become longer by its length alone.
		if (all[at] > 0) != (at != 0 && at != 2) {
			t.Error(all[at], "entries with byte", at, "turned were taken")
		}
	}
	draw := rand.New(rand.NewSource(105))
	for range 20000 {
		b := k.plain(k.drawn(draw))
		for range 1 + draw.Intn(3) {
			b[draw.Intn(16)] = byte(draw.Intn(40))
		}
		checkBlock(t, k, b)
		b[2] = byte(draw.Intn(256))
		checkBlock(t, k, b)
	}
}

// Every length that the third byte can tell, before every number of letters.
func TestEntryNameLengths(t *testing.T) {
	for letters := range 14 {
		for length := range 256 {
			b := append([]byte{0, 7, byte(length)}, strings.Repeat("q", letters)...)
			b = append(b, make([]byte, 16-len(b))...)
			if good := checkBlock(t, entryKind(), b); good != (letters == length && letters > 0) {
				t.Errorf("%d letters and the length %d: %v", letters, length, good)
			}
		}
	}
}

func TestEntryLengths(t *testing.T) {
	for _, e := range turnedEntries() {
		for _, list := range wrongLengths(plainEntry(e)) {
			if got := impl.DecodeEntry(list); got != (impl.EntryResult{}) {
				t.Fatalf("%d bytes are decoded as %v", len(list), got)
			}
		}
	}
}

// manyEntries are so many valid entries, all with one name or another.
func manyEntries(n int) []impl.Entry {
	entries := make([]impl.Entry, n)
	for i := range entries {
		entries[i] = impl.Entry{Inode: int64(i%256) + 1, Name: fmt.Sprint("n", i)}
	}
	return entries
}

func TestDirByHand(t *testing.T) {
	entries := []impl.Entry{{Inode: 2, Name: "c"}, {Inode: 256, Name: "ab"}, {Inode: 2, Name: "b"}}
	want := slices.Concat(padded(0, 2, 1, 99)[:16], padded(1, 0, 2, 97, 98)[:16], padded(0, 2, 1, 98)[:16])
	if got := impl.EncodeDir(entries); !bytes.Equal(got, want) {
		t.Error("encoded as", got)
	}
	if got := impl.DecodeDir(want); !got.Good || !slices.Equal(got.Entries, entries) {
		t.Error("decoded as", got)
	}
	for _, none := range [][]byte{nil, {}} {
		if got := impl.DecodeDir(none); !got.Good || len(got.Entries) != 0 {
			t.Error("no bytes are decoded as", got)
		}
	}
	if len(impl.EncodeDir(nil)) != 0 || len(impl.EncodeDir([]impl.Entry{})) != 0 {
		t.Error("no entries have bytes")
	}
	most := impl.EncodeDir(manyEntries(160))
	if r := impl.DecodeDir(most); len(most) != 2560 || !r.Good || !slices.Equal(r.Entries, manyEntries(160)) {
		t.Error("160 entries")
	}
	more := append(slices.Clone(most), plainEntry(impl.Entry{Inode: 1, Name: "last"})...)
	if r := impl.DecodeDir(more); r.Good || len(r.Entries) != 0 || len(impl.EncodeDir(manyEntries(161))) != 0 {
		t.Error("161 entries")
	}
}

// Promise 4: directories of all sizes, those with an entry that is none, and those with two of one name.
func TestDirThereAndBack(t *testing.T) {
	k := dirKind()
	draw := rand.New(rand.NewSource(106))
	sizes := []int{0, 1, 2, 3, 4, 5, 33, 159, 160, 161, 162, 256, 1000}
	for _, n := range sizes {
		checkThing(t, k, manyEntries(n))
	}
	for range 1500 {
		entries := k.drawn(draw).([]impl.Entry)
		checkThing(t, k, entries)
		if len(entries) > 0 {
			at := draw.Intn(len(entries))
			other := slices.Clone(entries)
			other[at].Name = entries[draw.Intn(len(entries))].Name
			checkThing(t, k, other)
			other[at].Name = oddNames()[draw.Intn(len(oddNames()))]
			checkThing(t, k, other)
			other[at] = impl.Entry{Inode: []int64{-1, 0, 1, 256, 257, math.MinInt64, math.MaxInt64}[draw.Intn(7)], Name: "other"}
			checkThing(t, k, other)
		}
	}
}

// One name at each two places of a full directory; one inode at all of them is allowed.
func TestDirNamesThatStandTwice(t *testing.T) {
	t.Parallel()
	for i := range 160 {
		for j := i + 1; j < 160; j += 1 + i%7 {
			entries := manyEntries(160)
			entries[j].Name = entries[i].Name
			data := dirKind().plain(entries)
			if len(impl.EncodeDir(entries)) != 0 || impl.DecodeDir(data).Good {
				t.Fatal("one name at", i, j)
			}
		}
	}
	entries := manyEntries(160)
	for i := range entries {
		entries[i].Inode = 7
	}
	checkThing(t, dirKind(), entries)
	if !impl.DecodeDir(impl.EncodeDir(entries)).Good {
		t.Error("one inode at all places")
	}
}

// Promise 4: with one byte turned, a directory is taken only as another valid one.
func TestDirTurned(t *testing.T) {
	t.Parallel()
	k := dirKind()
	draw := rand.New(rand.NewSource(107))
	alike := []impl.Entry{{Inode: 1, Name: "a"}, {Inode: 1, Name: "b"}, {Inode: 256, Name: "ab"}, {Inode: 9, Name: "abcdefghijklm"}}
	for _, entries := range [][]impl.Entry{alike[:1], alike[:2], alike, drawnDir(draw, 5)} {
		taken := checkTurned(t, k, entries)
		if len(taken) == 0 || taken[2] != 0 {
			t.Error("turned and taken:", taken)
		}
	}
	full := k.plain(manyEntries(160))
	for at := range full {
		other := slices.Clone(full)
		other[at] ^= byte(1 + draw.Intn(255))
		checkBlock(t, k, other)
		other[at] = full[(at+16)%len(full)]
		checkBlock(t, k, other)
	}
}

// Each number of bytes up to that of some entries more than there may be.
func TestDirLengths(t *testing.T) {
	data := dirKind().plain(manyEntries(170))
	for n := range data {
		r := impl.DecodeDir(data[:n])
		want := n%16 == 0 && n <= 2560
		if r.Good != want || want && len(r.Entries) != n/16 || !want && len(r.Entries) != 0 {
			t.Errorf("%d bytes: %v, and %d entries", n, r.Good, len(r.Entries))
		}
	}
	for _, list := range wrongLengths(plainEntry(impl.Entry{Inode: 3, Name: "q"})) {
		checkBlock(t, dirKind(), list)
	}
	if r := impl.DecodeDir(make([]byte, 16)); r.Good {
		t.Error("zeros are an entry")
	}
}

// anyEntries need not be valid, and some names stand there more than once.
func anyEntries(draw *rand.Rand, n int) []impl.Entry {
	entries := make([]impl.Entry, n)
	names := append(oddNames(), "a", "b", "ab", "a", "abc", "A", "~", "...", "aa", "a\xff", "a\x00")
	for i := range entries {
		entries[i] = impl.Entry{Inode: draw.Int63n(700) - 200, Name: names[draw.Intn(len(names))]}
		if draw.Intn(4) == 0 {
			entries[i].Name = drawnName(draw)
		}
	}
	return entries
}

func TestDirFind(t *testing.T) {
	t.Parallel()
	twice := []impl.Entry{{Inode: 5, Name: "x"}, {Inode: 0, Name: "y"}, {Inode: -7, Name: "x"}, {Name: ""}, {Name: "a/b"}, {Name: ""}}
	for name, want := range map[string]int64{"x": 0, "y": 1, "": 3, "a/b": 4, "z": -1, "X": -1, "x\x00": -1, "xx": -1} {
		if got := impl.DirFind(twice, name); got != want {
			t.Errorf("%q stands at %d, not %d", name, got, want)
		}
		if got := impl.DirFind(nil, name); got != -1 {
			t.Errorf("%q of no entries stands at %d", name, got)
		}
	}
	draw := rand.New(rand.NewSource(108))
	for range 2000 {
		entries := anyEntries(draw, draw.Intn(40))
		for _, name := range append(oddNames(), "a", "b", "abc", "nobody", drawnName(draw)) {
			if got, want := impl.DirFind(entries, name), plainFind(entries, name); got != want {
				t.Errorf("%q stands at %d, not %d", name, got, want)
			}
		}
		for i, e := range entries {
			if got := impl.DirFind(entries, e.Name); got > int64(i) || got < 0 || entries[got].Name != e.Name {
				t.Errorf("entry %d stands at %d", i, got)
			}
		}
	}
	many := manyEntries(100000)
	if impl.DirFind(many, "n99999") != 99999 || impl.DirFind(many, "n100000") != -1 {
		t.Error("100000 entries")
	}
}

func TestDirRemove(t *testing.T) {
	draw := rand.New(rand.NewSource(109))
	three := []impl.Entry{{Inode: 1, Name: "a"}, {Inode: 2, Name: "b"}, {Inode: 3, Name: "c"}}
	for at, want := range map[int64]string{0: "cb", 1: "ac", 2: "ab", 3: "abc", -1: "abc", math.MinInt64: "abc", math.MaxInt64: "abc", 1 << 32: "abc"} {
		names := ""
		for _, e := range impl.DirRemove(three, at) {
			names += e.Name
		}
		if names != want {
			t.Errorf("without %d: %s", at, names)
		}
	}
	for n := range 30 {
		entries := anyEntries(draw, n)
		for at := int64(-3); at < int64(n)+3; at++ {
			if got, want := impl.DirRemove(entries, at), plainRemove(entries, at); !slices.Equal(got, want) {
				t.Errorf("%d entries without %d: %v, not %v", n, at, got, want)
			}
		}
		for _, at := range []int64{math.MinInt64, math.MinInt64 + 1, 1 << 32, math.MaxInt64 - 1, math.MaxInt64} {
			if got := impl.DirRemove(entries, at); !slices.Equal(got, entries) {
				t.Errorf("%d entries without %d: %v", n, at, got)
			}
		}
	}
	if len(impl.DirRemove(nil, 0)) != 0 || len(impl.DirRemove(three[:1], 0)) != 0 || len(impl.DirRemove(three[:1], 1)) != 1 {
		t.Error("one entry, and none")
	}
	if got := impl.DirRemove(manyEntries(100000), 5); len(got) != 99999 || got[5].Name != "n99999" {
		t.Error("100000 entries")
	}
}

func TestDirNames(t *testing.T) {
	entries := []impl.Entry{}
	for _, name := range []string{"b", "ab", "a", "b", "abc", "B", "a\xff", "a\x00", "", "é", "~", "a", "aB"} {
		entries = append(entries, impl.Entry{Name: name})
	}
	want := []string{"", "B", "a", "a", "a\x00", "aB", "ab", "abc", "a\xff", "b", "b", "~", "é"}
	if got := impl.DirNames(entries); !slices.Equal(got, want) {
		t.Errorf("%q, not %q", got, want)
	}
	draw := rand.New(rand.NewSource(110))
	for range 1000 {
		entries := anyEntries(draw, draw.Intn(40))
		if got, want := impl.DirNames(entries), plainNames(entries); !slices.Equal(got, want) {
			t.Errorf("%q, not %q", got, want)
		}
	}
	for _, n := range []int{0, 1, 2, 160, 161, 999, 1000, 1001, 2000, 100000} {
		entries := anyEntries(draw, n)
		if got, want := impl.DirNames(entries), plainNames(entries); !slices.Equal(got, want) {
			t.Errorf("%d entries: %d names, not %d", n, len(got), len(want))
		}
	}
	same := slices.Repeat([]impl.Entry{{Name: "x"}}, 1000)
	if got := impl.DirNames(same); len(got) != 1000 || got[999] != "x" || len(impl.DirNames(append(same, same[0]))) != 0 {
		t.Error("one name a thousand times")
	}
	if len(impl.DirNames(nil)) != 0 {
		t.Error("no entries have names")
	}
}
