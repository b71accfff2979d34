package tests

import (
	"bytes"
	"slices"
	"testing"

	"loop.example/s01525/impl"
)

var magic = []byte{106, 108, 111, 103}

// beginning are 64 drawn bytes with these ones at their beginning.
func beginning(seed int64, with ...byte) []byte {
	b := drawn(64, seed)
	copy(b, with)
	return b
}

// checkEscape holds Escape of 64 bytes against the document, and Unescape of what it tells against the bytes.
func checkEscape(t *testing.T, b []byte) {
	t.Helper()
	is := bytes.HasPrefix(b, magic)
	want := slices.Clone(b)
	if is {
		copy(want, []byte{0, 0, 0, 0})
	}
	e := impl.Escape(b)
	if !e.Good || e.Escaped != is || !bytes.Equal(e.Data, want) {
		t.Errorf("Escape of %v: %v", b, e)
	}
	if bytes.HasPrefix(e.Data, magic) || impl.BlockKind(e.Data) != 0 {
		t.Errorf("a copy that begins with the magic: %v", e.Data)
	}
	if got := impl.Unescape(e.Data, e.Escaped); !bytes.Equal(got, b) {
		t.Errorf("%v escaped and back: %v", b, got)
	}
}

// Promise 4, of data that begin with the magic, with a part of it, with zeros, and with anything.
func TestEscapeThereAndBack(t *testing.T) {
	t.Parallel()
	for seed := range int64(60) {
		checkEscape(t, beginning(seed, magic...))
		checkEscape(t, beginning(seed, 0, 0, 0, 0))
		checkEscape(t, beginning(seed))
		for n := range 4 {
			checkEscape(t, beginning(seed, append(slices.Clone(magic[:n]), 0)...))
			checkEscape(t, beginning(seed, append(make([]byte, n), magic[n:]...)...))
			for x := 1; x < 256; x++ {
				b := beginning(seed, magic...)
				b[n] ^= byte(x)
				checkEscape(t, b)
			}
		}
		checkEscape(t, slices.Concat(magic, beginning(seed, magic...))[:64])
		b := beginning(seed, 1)
		copy(b[1+seed:], magic)
		checkEscape(t, b)
	}
	for x := range 256 {
		checkEscape(t, sameBytes(64, byte(x)))
		checkEscape(t, append(slices.Clone(magic), sameBytes(60, byte(x))...))
	}
}

// Blocks of the journal themselves may be the data of a changed block.
func TestEscapeOfJournalBlocks(t *testing.T) {
	things := []any{
		impl.JSuper{Log: 16, Start: 3, Seq: 258}, impl.Descriptor{Seq: 7, Tags: []impl.Tag{{Block: 30}}},
		impl.Revoke{Seq: 7, Blocks: []int64{30}}, impl.Commit{Seq: 7, Count: 3, Sum: 258},
	}
	for i, k := range journalKinds() {
		b := k.encode(things[i])
		checkEscape(t, b)
		if !impl.Escape(b).Escaped {
			t.Error(k.name, "is not escaped")
		}
	}
}

func TestEscapeByHand(t *testing.T) {
	rest := sameBytes(60, 9)
	with := append([]byte{106, 108, 111, 103}, rest...)
	zeros := append([]byte{0, 0, 0, 0}, rest...)
	if got := impl.Escape(with); value(got) != value(impl.Copied{Good: true, Data: zeros, Escaped: true}) {
		t.Error("the magic:", got)
	}
	if got := impl.Escape(zeros); value(got) != value(impl.Copied{Good: true, Data: zeros}) {
		t.Error("four zeros:", got)
	}
	if got := impl.Unescape(zeros, true); !bytes.Equal(got, with) {
		t.Error("the magic again:", got)
	}
	if got := impl.Unescape(zeros, false); !bytes.Equal(got, zeros) {
		t.Error("zeros that are meant:", got)
	}
	if got := impl.Unescape(with, false); len(got) != 0 {
		t.Error("no copy begins with the magic:", got)
	}
	if got := impl.Unescape(with, true); len(got) != 0 {
		t.Error("an escaped copy begins with zeros:", got)
	}
}

func TestEscapeLengths(t *testing.T) {
	for n := range 200 {
		for _, b := range [][]byte{drawn(n, 1), make([]byte, n), append(slices.Clone(magic), make([]byte, 200)...)[:n]} {
			got := impl.Escape(b)
			if got.Good != (n == 64) || n != 64 && value(got) != value(impl.Copied{}) {
				t.Errorf("Escape of %d bytes: %v", n, got)
			}
			for _, escaped := range []bool{false, true} {
				if n != 64 && len(impl.Unescape(b, escaped)) != 0 {
					t.Errorf("Unescape of %d bytes", n)
				}
			}
		}
	}
	if impl.Escape(nil).Good || len(impl.Unescape(nil, true)) != 0 || len(impl.Unescape(nil, false)) != 0 {
		t.Error("no bytes")
	}
}

// Unescape takes exactly what Escape could have told.
func TestUnescapeRefuses(t *testing.T) {
	t.Parallel()
	for seed := range int64(30) {
		for at := range 4 {
			for x := 1; x < 256; x++ {
				b := beginning(seed, 0, 0, 0, 0)
				b[at] = byte(x)
				if got := impl.Unescape(b, true); len(got) != 0 {
					t.Fatalf("byte %d is %d, and escaped: %v", at, x, got)
				}
				if got := impl.Unescape(b, false); !bytes.Equal(got, b) {
					t.Fatalf("byte %d is %d, not escaped: %v", at, x, got)
				}
				b = beginning(seed, magic...)
				b[at] ^= byte(x)
				if got := impl.Unescape(b, false); !bytes.Equal(got, b) {
					t.Fatalf("no magic, by byte %d: %v", at, got)
				}
			}
		}
		if len(impl.Unescape(beginning(seed, magic...), false)) != 0 || len(impl.Unescape(beginning(seed, magic...), true)) != 0 {
			t.Fatal("data that begin with the magic")
		}
		zeros := beginning(seed, 0, 0, 0, 0)
		if got := impl.Unescape(zeros, true); !bytes.Equal(got[:4], magic) || !bytes.Equal(got[4:], zeros[4:]) {
			t.Fatal("four zeros, escaped:", got)
		}
	}
}
