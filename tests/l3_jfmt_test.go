package tests

import (
	"bytes"
	"math/rand"
	"slices"
	"testing"

	"loop.example/s01525/impl"
)

// journalKind is one of the four kinds of blocks, all told alike. plain and parse go by the document's table
// alone, whether the thing is valid or not; plain is nil if its numbers have no place in the block.
type journalKind struct {
	name   string
	kind   int64
	encode func(thing any) []byte
	decode func(b []byte) (bool, any)
	plain  func(thing any) []byte
	parse  func(b []byte) any
	valid  func(thing any) bool
	drawn  func(draw *rand.Rand) any
	zero   any
}

func journalKinds() []journalKind {
	return []journalKind{superKind(), descriptorKind(), revokeKind(), commitKind()}
}

func superKind() journalKind {
	return journalKind{
		name: "superblock", kind: 1, zero: impl.JSuper{},
		encode: func(thing any) []byte { return impl.EncodeJSuper(thing.(impl.JSuper)) },
		decode: func(b []byte) (bool, any) { r := impl.DecodeJSuper(b); return r.Good, r.Super },
		plain: func(thing any) []byte {
			j := thing.(impl.JSuper)
			b := plainBlock(1, j.Log, j.Seq, field{j.Start, 2})
			if b != nil {
				copy(b[60:], plainNumber(plainCrcOn(0, b[:60]), 4))
			}
			return b
		},
		parse: func(b []byte) any {
			return impl.JSuper{Log: parsed(b, 6, 2), Start: parsed(b, 12, 2), Seq: parsed(b, 8, 4)}
		},
		valid: func(thing any) bool {
			j := thing.(impl.JSuper)
			return 16 <= j.Log && j.Log <= 512 && 0 <= j.Start && j.Start <= j.Log && isSeq(j.Seq)
		},
		drawn: func(draw *rand.Rand) any {
			log := 16 + draw.Int63n(497)
			return impl.JSuper{Log: log, Start: draw.Int63n(log + 1), Seq: 1 + draw.Int63n(4294967295)}
		},
	}
}

func descriptorKind() journalKind {
	return journalKind{
		name: "descriptor", kind: 2, zero: impl.Descriptor{},
		encode: func(thing any) []byte { return impl.EncodeDescriptor(thing.(impl.Descriptor)) },
		decode: func(b []byte) (bool, any) { r := impl.DecodeDescriptor(b); return r.Good, r.Descriptor },
		plain: func(thing any) []byte {
			d := thing.(impl.Descriptor)
			var fields []field
			for _, tag := range d.Tags {
				fields = append(fields, field{tag.Block, 2}, field{map[bool]int64{true: 1}[tag.Escaped], 1})
			}
			return plainBlock(2, int64(len(d.Tags)), d.Seq, fields...)
		},
		parse: func(b []byte) any {
			d := impl.Descriptor{Seq: parsed(b, 8, 4)}
			for i := range int(min(parsed(b, 6, 2), 17)) {
				d.Tags = append(d.Tags, impl.Tag{Block: parsed(b, 12+3*i, 2), Escaped: b[14+3*i] == 1})
			}
			return d
		},
		valid: func(thing any) bool {
			d := thing.(impl.Descriptor)
			blocks := []int64{}
			for _, tag := range d.Tags {
				blocks = append(blocks, tag.Block)
			}
			return isSeq(d.Seq) && isRise(blocks, 17)
		},
		drawn: func(draw *rand.Rand) any {
			d := impl.Descriptor{Seq: 1 + draw.Int63n(4294967295)}
			for _, b := range drawnRise(draw, 17) {
				d.Tags = append(d.Tags, impl.Tag{Block: b, Escaped: draw.Intn(2) == 1})
			}
			return d
		},
	}
}

func revokeKind() journalKind {
	return journalKind{
		name: "revoke block", kind: 3, zero: impl.Revoke{},
		encode: func(thing any) []byte { return impl.EncodeRevoke(thing.(impl.Revoke)) },
		decode: func(b []byte) (bool, any) { r := impl.DecodeRevoke(b); return r.Good, r.Revoke },
		plain: func(thing any) []byte {
			r := thing.(impl.Revoke)
			var fields []field
			for _, b := range r.Blocks {
				fields = append(fields, field{b, 2})
			}
			return plainBlock(3, int64(len(r.Blocks)), r.Seq, fields...)
		},
		parse: func(b []byte) any {
			r := impl.Revoke{Seq: parsed(b, 8, 4)}
			for i := range int(min(parsed(b, 6, 2), 26)) {
				r.Blocks = append(r.Blocks, parsed(b, 12+2*i, 2))
			}
			return r
		},
		valid: func(thing any) bool {
			r := thing.(impl.Revoke)
			return isSeq(r.Seq) && isRise(r.Blocks, 26)
		},
		drawn: func(draw *rand.Rand) any {
			return impl.Revoke{Seq: 1 + draw.Int63n(4294967295), Blocks: drawnRise(draw, 26)}
		},
	}
}

func commitKind() journalKind {
	return journalKind{
		name: "commit block", kind: 4, zero: impl.Commit{},
		encode: func(thing any) []byte { return impl.EncodeCommit(thing.(impl.Commit)) },
		decode: func(b []byte) (bool, any) { r := impl.DecodeCommit(b); return r.Good, r.Commit },
		plain: func(thing any) []byte {
			c := thing.(impl.Commit)
			return plainBlock(4, c.Count, c.Seq, field{c.Sum, 4})
		},
		parse: func(b []byte) any {
			return impl.Commit{Seq: parsed(b, 8, 4), Count: parsed(b, 6, 2), Sum: parsed(b, 12, 4)}
		},
		valid: func(thing any) bool {
			c := thing.(impl.Commit)
			return isSeq(c.Seq) && 1 <= c.Count && c.Count <= 511 && 0 <= c.Sum && c.Sum <= 4294967295
		},
		drawn: func(draw *rand.Rand) any {
			return impl.Commit{Seq: 1 + draw.Int63n(4294967295), Count: 1 + draw.Int63n(511), Sum: draw.Int63n(4294967296)}
		},
	}
}

// field is a number, and how many bytes it has in a block.
type field struct {
	number int64
	bytes  int
}

// plainBlock lays down a header and the fields behind it, and zeros behind them; nil if they do not fit.
func plainBlock(kind byte, count, seq int64, fields ...field) []byte {
	b := []byte{106, 108, 111, 103, kind, 0}
	for _, f := range append([]field{{count, 2}, {seq, 4}}, fields...) {
		if f.number < 0 || f.number >= 1<<(8*f.bytes) {
			return nil
		}
		b = append(b, plainNumber(f.number, int64(f.bytes))...)
	}
	if len(b) > 64 {
		return nil
	}
	return padded(b...)
}

// padded are these bytes and zeros behind them, 64 in all.
func padded(b ...byte) []byte {
	return append(slices.Clone(b), make([]byte, 64-len(b))...)
}

// parsed is the number in n bytes of a block.
func parsed(b []byte, at, n int) int64 {
	v := int64(0)
	for _, x := range b[at : at+n] {
		v = 256*v + int64(x)
	}
	return v
}

func isSeq(seq int64) bool {
	return 1 <= seq && seq <= 4294967295
}

// isRise asks for 1 to most blocks that rise strictly.
func isRise(blocks []int64, most int) bool {
	for i, b := range blocks {
		if b < 0 || b > 2047 || i > 0 && blocks[i-1] >= b {
			return false
		}
	}
	return 1 <= len(blocks) && len(blocks) <= most
}

// drawnRise are 1 to most blocks that rise strictly.
func drawnRise(draw *rand.Rand, most int) []int64 {
	blocks := []int64{}
	for _, b := range draw.Perm(2048)[:1+draw.Intn(most)] {
		blocks = append(blocks, int64(b))
	}
	slices.Sort(blocks)
	return blocks
}

// checkThing holds what Encode makes of a thing, valid or not, and what Decode makes of its bytes, against the table.
func checkThing(t *testing.T, k journalKind, thing any) {
	t.Helper()
	want := k.plain(thing)
	got := k.encode(thing)
	if !k.valid(thing) {
		if len(got) != 0 {
			t.Errorf("%s %v is not valid, and is encoded", k.name, thing)
		}
		if want != nil {
			checkBlock(t, k, want)
		}
		return
	}
	if want == nil || !bytes.Equal(got, want) {
		t.Errorf("%s %v: encoded as\n%v, not\n%v", k.name, thing, got, want)
		return
	}
	good, back := k.decode(got)
	if !good || value(back) != value(thing) {
		t.Errorf("%s %v: decoded as %v %v", k.name, thing, good, back)
	}
}

// checkBlock asks whether Decode takes 64 bytes exactly if they are the block of a valid thing, and tells it.
func checkBlock(t *testing.T, k journalKind, b []byte) bool {
	t.Helper()
	thing := k.parse(b)
	want := k.valid(thing) && bytes.Equal(k.plain(thing), b)
	good, got := k.decode(b)
	if good != want {
		t.Errorf("%s: Good is %v, of the bytes\n%v", k.name, good, b)
		return good
	}
	if !good && value(got) != value(k.zero) {
		t.Errorf("%s: not Good, and yet it tells %v", k.name, got)
	}
	if good && (value(got) != value(thing) || !bytes.Equal(k.encode(got), b)) {
		t.Errorf("%s: %v is told of the bytes\n%v", k.name, got, b)
	}
	return good
}

func TestJournalConstants(t *testing.T) {
	for i, c := range []struct{ got, want int64 }{
		{impl.MinLog, 16}, {impl.MaxLog, 512}, {impl.MaxSeq, 4294967295}, {impl.MaxTags, 17}, {impl.MaxRevokes, 26},
		{impl.KindSuper, 1}, {impl.KindDescriptor, 2}, {impl.KindRevoke, 3}, {impl.KindCommit, 4},
	} {
		if c.got != c.want {
			t.Error("constant", i, "is", c.got)
		}
	}
}

// The bytes of each kind, written out by hand.
func TestJournalBlocksByHand(t *testing.T) {
	kinds := journalKinds()
	super := func(last [4]byte, first ...byte) []byte {
		return append(padded(first...)[:60], last[:]...)
	}
	tags := []impl.Tag{{Block: 0}, {Block: 1, Escaped: true}, {Block: 255}, {Block: 256, Escaped: true}, {Block: 2047, Escaped: true}}
	for _, c := range []struct {
		kind  journalKind
		thing any
		bytes []byte
	}{
		{kinds[0], impl.JSuper{Log: 16, Start: 3, Seq: 258},
			super([4]byte{10, 111, 250, 93}, 106, 108, 111, 103, 1, 0, 0, 16, 0, 0, 1, 2, 0, 3)},
		{kinds[0], impl.JSuper{Log: 16, Start: 0, Seq: 1},
			super([4]byte{119, 236, 177, 7}, 106, 108, 111, 103, 1, 0, 0, 16, 0, 0, 0, 1, 0, 0)},
		{kinds[0], impl.JSuper{Log: 512, Start: 512, Seq: 4294967295},
			super([4]byte{161, 119, 119, 134}, 106, 108, 111, 103, 1, 0, 2, 0, 255, 255, 255, 255, 2, 0)},
		{kinds[0], impl.JSuper{Log: 300, Start: 299, Seq: 16909060},
			super([4]byte{173, 166, 188, 40}, 106, 108, 111, 103, 1, 0, 1, 44, 1, 2, 3, 4, 1, 43)},
		{kinds[1], impl.Descriptor{Seq: 7, Tags: []impl.Tag{{Block: 30}, {Block: 300, Escaped: true}}},
			padded(106, 108, 111, 103, 2, 0, 0, 2, 0, 0, 0, 7, 0, 30, 0, 1, 44, 1)},
		{kinds[1], impl.Descriptor{Seq: 4294967295, Tags: tags},
			padded(106, 108, 111, 103, 2, 0, 0, 5, 255, 255, 255, 255, 0, 0, 0, 0, 1, 1, 0, 255, 0, 1, 0, 1, 7, 255, 1)},
		{kinds[2], impl.Revoke{Seq: 16909060, Blocks: []int64{0, 5, 300, 2047}},
			padded(106, 108, 111, 103, 3, 0, 0, 4, 1, 2, 3, 4, 0, 0, 0, 5, 1, 44, 7, 255)},
		{kinds[3], impl.Commit{Seq: 7, Count: 3, Sum: 258},
			padded(106, 108, 111, 103, 4, 0, 0, 3, 0, 0, 0, 7, 0, 0, 1, 2)},
		{kinds[3], impl.Commit{Seq: 65536, Count: 511, Sum: 4278190081},
			padded(106, 108, 111, 103, 4, 0, 1, 255, 0, 1, 0, 0, 255, 0, 0, 1)},
	} {
		if got := c.kind.encode(c.thing); !bytes.Equal(got, c.bytes) {
			t.Errorf("%s %v: encoded as\n%v, not\n%v", c.kind.name, c.thing, got, c.bytes)
		}
		if good, got := c.kind.decode(c.bytes); !good || value(got) != value(c.thing) {
			t.Errorf("%s %v: decoded as %v %v", c.kind.name, c.thing, good, got)
		}
		if got := impl.BlockKind(c.bytes); got != c.kind.kind {
			t.Errorf("%s: of the kind %d", c.kind.name, got)
		}
	}
}

// A block that is full of tags or numbers has its last byte but one or its last byte in use.
func TestJournalFullBlocksByHand(t *testing.T) {
	d, wantD := impl.Descriptor{Seq: 9}, []byte{106, 108, 111, 103, 2, 0, 0, 17, 0, 0, 0, 9}
	for i := range byte(17) {
		d.Tags = append(d.Tags, impl.Tag{Block: 1024 + int64(i), Escaped: i%2 == 0})
		wantD = append(wantD, 4, i, 1-i%2)
	}
	if got := impl.EncodeDescriptor(d); !bytes.Equal(got, padded(wantD...)) {
		t.Errorf("17 tags:\n%v", got)
	}
	r, wantR := impl.Revoke{Seq: 9}, []byte{106, 108, 111, 103, 3, 0, 0, 26, 0, 0, 0, 9}
	for i := range byte(26) {
		r.Blocks = append(r.Blocks, 1792+int64(i))
		wantR = append(wantR, 7, i)
	}
	if got := impl.EncodeRevoke(r); !bytes.Equal(got, wantR) {
		t.Errorf("26 numbers:\n%v", got)
	}
	if good, got := descriptorKind().decode(padded(wantD...)); !good || value(got) != value(d) {
		t.Error("17 tags decoded:", good, got)
	}
	if good, got := revokeKind().decode(wantR); !good || value(got) != value(r) {
		t.Error("26 numbers decoded:", good, got)
	}
}

// Promise 4: drawn things, there and back.
func TestJournalThereAndBack(t *testing.T) {
	draw := rand.New(rand.NewSource(31))
	for _, k := range journalKinds() {
		for range 3000 {
			thing := k.drawn(draw)
			if !k.valid(thing) {
				t.Fatal("the test draws no valid thing:", thing)
			}
			checkThing(t, k, thing)
		}
	}
}

// The blocks of a kind are nothing to the other kinds.
func TestJournalOtherKinds(t *testing.T) {
	draw := rand.New(rand.NewSource(32))
	for i, k := range journalKinds() {
		for range 300 {
			b := k.plain(k.drawn(draw))
			for j, other := range journalKinds() {
				good, got := other.decode(b)
				if good != (i == j) || !good && value(got) != value(other.zero) {
					t.Fatalf("a %s given to the %s: %v %v", k.name, other.name, good, got)
				}
				turned := slices.Clone(b)
				turned[4] = byte(other.kind)
				for _, third := range journalKinds() {
					checkBlock(t, third, turned)
				}
			}
		}
	}
}

func TestJournalNoBlocks(t *testing.T) {
	for _, k := range journalKinds() {
		for seed := range int64(50) {
			for _, b := range [][]byte{nil, {}, drawn(64, seed), sameBytes(64, byte(seed)), drawn(128, seed), drawn(1, seed)} {
				if good, got := k.decode(b); good || value(got) != value(k.zero) {
					t.Fatalf("%s of %v: %v", k.name, b, got)
				}
			}
		}
	}
}

// Lists of 64 bytes only are blocks.
func TestJournalLengths(t *testing.T) {
	draw := rand.New(rand.NewSource(33))
	for _, k := range journalKinds() {
		for range 20 {
			b := k.plain(k.drawn(draw))
			for _, n := range []int{0, 1, 4, 5, 12, 16, 60, 63, 64, 65, 68, 127, 128} {
				list := slices.Concat(b, b)[:n]
				if n == 65 {
					list[64] = 0
				}
				if good, got := k.decode(list); good != (n == 64) || n != 64 && value(got) != value(k.zero) {
					t.Fatalf("%s of %d bytes: %v %v", k.name, n, good, got)
				}
				if got := impl.BlockKind(list); got != map[bool]int64{true: k.kind}[n == 64] {
					t.Fatalf("%s of %d bytes: the kind %d", k.name, n, got)
				}
			}
		}
	}
}

func TestBlockKind(t *testing.T) {
	for seed := range int64(40) {
		b := drawn(64, seed)
		copy(b, []byte{106, 108, 111, 103})
		for kind := range 256 {
			b[4] = byte(kind)
			want := int64(0)
			if 1 <= kind && kind <= 4 {
				want = int64(kind)
			}
			if got := impl.BlockKind(b); got != want {
				t.Fatalf("byte 4 is %d: %d", kind, got)
			}
		}
		for at := range 4 {
			for x := 1; x < 256; x++ {
				other := slices.Clone(b)
				other[4] = byte(1 + seed%4)
				other[at] ^= byte(x)
				if got := impl.BlockKind(other); got != 0 {
					t.Fatalf("byte %d of the magic is %d: %d", at, other[at], got)
				}
			}
		}
	}
	for _, n := range []int{0, 1, 3, 4, 5, 63, 65, 128} {
		list := make([]byte, n)
		copy(list, []byte{106, 108, 111, 103, 2})
		if got := impl.BlockKind(list); got != 0 {
			t.Errorf("%d bytes: %d", n, got)
		}
	}
	if impl.BlockKind(nil) != 0 {
		t.Error("no bytes")
	}
}
