package tests

import (
	"bytes"
	"math"
	"math/rand"
	"slices"
	"testing"

	"loop.example/s01525/impl"
)

// plainTxn lays the blocks of a transaction down as the document says it, whether it is valid or not; nil if
// something of it has no place in a block.
func plainTxn(x impl.Txn) []byte {
	var out []byte
	for i := 0; i < len(x.Revokes); i += 26 {
		var fields []field
		for _, b := range x.Revokes[i:min(i+26, len(x.Revokes))] {
			fields = append(fields, field{b, 2})
		}
		b := plainBlock(3, int64(len(fields)), x.Seq, fields...)
		if b == nil {
			return nil
		}
		out = append(out, b...)
	}
	for i := 0; i < len(x.Homes); i += 17 {
		some := x.Homes[i:min(i+17, len(x.Homes))]
		b := plainHomes(x.Seq, some)
		if b == nil {
			return nil
		}
		out = append(out, b...)
	}
	commit := plainBlock(4, int64(len(out)/64), x.Seq, field{plainCrcOn(0, out), 4})
	if commit == nil {
		return nil
	}
	return append(out, commit...)
}

// plainHomes are a descriptor and the copies behind it.
func plainHomes(seq int64, homes []impl.Home) []byte {
	var fields []field
	var copies []byte
	for _, h := range homes {
		if len(h.Data) != 64 {
			return nil
		}
		data, escaped := slices.Clone(h.Data), int64(0)
		if string(data[:4]) == "jlog" {
			copy(data, "\x00\x00\x00\x00")
			escaped = 1
		}
		fields = append(fields, field{h.Block, 2}, field{escaped, 1})
		copies = append(copies, data...)
	}
	b := plainBlock(2, int64(len(homes)), seq, fields...)
	if b == nil {
		return nil
	}
	return append(b, copies...)
}

// isTxn is what the document asks of a valid transaction, rule by rule.
func isTxn(x impl.Txn) bool {
	blocks := []int64{}
	for i, h := range x.Homes {
		if len(h.Data) != 64 || i > 0 && x.Homes[i-1].Block >= h.Block {
			return false
		}
		blocks = append(blocks, h.Block)
	}
	for i, b := range x.Revokes {
		if i > 0 && x.Revokes[i-1] >= b || slices.Contains(blocks[:len(x.Homes)], b) {
			return false
		}
		blocks = append(blocks, b)
	}
	for _, b := range blocks {
		if b < 0 || b > 2047 {
			return false
		}
	}
	return 1 <= len(blocks) && len(blocks) <= 128 && 1 <= x.Seq && x.Seq <= 4294967295
}

// txnOf is a transaction of these homes and revokes, with drawn data; every fifth begins with the magic.
func txnOf(seq int64, homes, revokes []int64) impl.Txn {
	x := impl.Txn{Seq: seq, Revokes: slices.Clone(revokes)}
	for i, b := range homes {
		data := drawn(64, b)
		if i%5 == 2 {
			copy(data, magic)
		}
		x.Homes = append(x.Homes, impl.Home{Block: b, Data: data})
	}
	return x
}

// drawnTxn is a valid transaction of 1 to most homes and revokes.
func drawnTxn(draw *rand.Rand, seq int64, most int) impl.Txn {
	x := impl.Txn{Seq: seq}
	share := draw.Intn(5)
	for _, b := range drawnRise(draw, most) {
		if draw.Intn(4) < share {
			data := drawn(64, draw.Int63())
			switch draw.Intn(6) {
			case 0:
				copy(data, magic)
			case 1:
				copy(data, make([]byte, 4))
			case 2:
				copy(data, plainBlock(byte(1+draw.Intn(4)), 1, seq))
			}
			x.Homes = append(x.Homes, impl.Home{Block: b, Data: data})
		} else {
			x.Revokes = append(x.Revokes, b)
		}
	}
	return x
}

// checkTxn holds all that is told of a transaction, valid or not, against the document.
func checkTxn(t *testing.T, name string, x impl.Txn) {
	t.Helper()
	want := plainTxn(x)
	valid := isTxn(x)
	if impl.ValidTxn(x) != valid {
		t.Errorf("%s: ValidTxn is %v", name, !valid)
	}
	if !valid {
		if impl.TxnLength(x) != 0 || len(impl.TxnBlocks(x)) != 0 {
			t.Errorf("%s: not valid, and yet %d blocks, %d bytes", name, impl.TxnLength(x), len(impl.TxnBlocks(x)))
		}
		checkNoTxn(t, name, want)
		return
	}
	if got := impl.TxnBlocks(x); !bytes.Equal(got, want) {
		t.Errorf("%s: the blocks are\n%v, not\n%v", name, got, want)
	}
	if got := impl.TxnLength(x); got != int64(len(want)/64) {
		t.Errorf("%s: %d blocks, not %d", name, got, len(want)/64)
	}
	if got := impl.ReadTxn(want); !got.Good || value(got.Txn) != value(x) {
		t.Errorf("%s: read back as %v", name, got)
	}
}

// checkNoTxn asks whether ReadTxn tells nothing of these bytes.
func checkNoTxn(t *testing.T, name string, b []byte) {
	t.Helper()
	if got := impl.ReadTxn(b); got.Good || value(got) != value(impl.TxnResult{}) {
		t.Errorf("%s: read as %v", name, got)
	}
}

func TestTxnByHand(t *testing.T) {
	sevens, nines := sameBytes(64, 7), sameBytes(60, 9)
	for _, c := range []struct {
		name string
		txn  impl.Txn
		want [][]byte
	}{
		{
			"two revokes, two homes, one of them with the magic",
			impl.Txn{Seq: 258, Revokes: []int64{3, 700}, Homes: []impl.Home{{Block: 30, Data: sevens}, {Block: 300, Data: append([]byte{106, 108, 111, 103}, nines...)}}},
			[][]byte{
				padded(106, 108, 111, 103, 3, 0, 0, 2, 0, 0, 1, 2, 0, 3, 2, 188),
				padded(106, 108, 111, 103, 2, 0, 0, 2, 0, 0, 1, 2, 0, 30, 0, 1, 44, 1),
				sevens,
				append([]byte{0, 0, 0, 0}, nines...),
				padded(106, 108, 111, 103, 4, 0, 0, 4, 0, 0, 1, 2, 95, 172, 192, 40),
			},
		},
		{
			"one home",
			impl.Txn{Seq: 1, Homes: []impl.Home{{Block: 0, Data: sameBytes(64, 255)}}},
			[][]byte{
				padded(106, 108, 111, 103, 2, 0, 0, 1, 0, 0, 0, 1, 0, 0, 0),
				sameBytes(64, 255),
				padded(106, 108, 111, 103, 4, 0, 0, 2, 0, 0, 0, 1, 207, 4, 13, 34),
			},
		},
		{
			"one revoke",
			impl.Txn{Seq: 4294967295, Revokes: []int64{2047}},
			[][]byte{
				padded(106, 108, 111, 103, 3, 0, 0, 1, 255, 255, 255, 255, 7, 255),
				padded(106, 108, 111, 103, 4, 0, 0, 1, 255, 255, 255, 255, 226, 253, 168, 174),
			},
		},
	} {
		want := slices.Concat(c.want...)
		if got := impl.TxnBlocks(c.txn); !bytes.Equal(got, want) {
			t.Errorf("%s: %v, not %v", c.name, got, want)
		}
		if got := impl.TxnLength(c.txn); got != int64(len(c.want)) {
			t.Errorf("%s: %d blocks", c.name, got)
		}
		if got := impl.ReadTxn(want); value(got) != value(impl.TxnResult{Good: true, Txn: c.txn}) {
			t.Errorf("%s: read as %v", c.name, got)
		}
	}
}

// 27 revokes and 18 homes: two revoke blocks, two descriptors, the second of each with the rest.
func TestTxnInPiecesByHand(t *testing.T) {
	x := impl.Txn{Seq: 5, Revokes: runOf(0, 27)}
	first := []byte{106, 108, 111, 103, 3, 0, 0, 26, 0, 0, 0, 5}
	for b := range byte(26) {
		first = append(first, 0, b)
	}
	tags := []byte{106, 108, 111, 103, 2, 0, 0, 17, 0, 0, 0, 5}
	var copies []byte
	for b := byte(100); b < 117; b++ {
		x.Homes = append(x.Homes, impl.Home{Block: int64(b), Data: filled(b)})
		tags = append(tags, 0, b, 0)
		copies = append(copies, filled(b)...)
	}
	x.Homes = append(x.Homes, impl.Home{Block: 117, Data: filled(117)})
	want := slices.Concat(
		padded(first...), padded(106, 108, 111, 103, 3, 0, 0, 1, 0, 0, 0, 5, 0, 26),
		padded(tags...), copies,
		padded(106, 108, 111, 103, 2, 0, 0, 1, 0, 0, 0, 5, 0, 117, 0), filled(117),
		padded(106, 108, 111, 103, 4, 0, 0, 22, 0, 0, 0, 5, 120, 190, 60, 187),
	)
	if got := impl.TxnBlocks(x); !bytes.Equal(got, want) {
		t.Errorf("%v, not %v", got, want)
	}
	if got := impl.TxnLength(x); got != 23 {
		t.Error(got, "blocks")
	}
	if got := impl.ReadTxn(want); value(got) != value(impl.TxnResult{Good: true, Txn: x}) {
		t.Error("read as", got)
	}
}

// Counts of homes and revokes around 17 and 26, and around 128 in all.
func TestTxnCounts(t *testing.T) {
	t.Parallel()
	if impl.MaxTxn != 128 {
		t.Error("MaxTxn is", impl.MaxTxn)
	}
	for _, c := range []struct {
		homes, revokes int
		length         int64
	}{
		{0, 0, 0}, {1, 0, 3}, {0, 1, 2}, {1, 1, 4}, {16, 0, 18}, {17, 0, 19}, {18, 0, 21}, {33, 0, 36}, {34, 0, 37}, {35, 0, 39},
		{0, 25, 2}, {0, 26, 2}, {0, 27, 3}, {0, 51, 3}, {0, 52, 3}, {0, 53, 4}, {17, 26, 20}, {18, 27, 23}, {34, 52, 39},
		{127, 0, 136}, {128, 0, 137}, {129, 0, 0}, {0, 127, 6}, {0, 128, 6}, {0, 129, 0}, {0, 130, 0}, {1, 127, 8}, {127, 1, 137}, {64, 64, 72},
		{1, 128, 0}, {128, 1, 0}, {64, 65, 0}, {128, 128, 0}, {300, 0, 0}, {0, 300, 0}, {2000, 40, 0},
	} {
		x := txnOf(7, runOf(0, c.homes), runOf(2048-int64(c.revokes), c.revokes))
		checkTxn(t, "counts", x)
		if got := impl.TxnLength(x); got != c.length {
			t.Errorf("%d homes, %d revokes: %d blocks, not %d", c.homes, c.revokes, got, c.length)
		}
	}
	for homes := range 132 {
		for _, revokes := range []int{0, 1, 26, 27, 128 - homes, 129 - homes} {
			if revokes >= 0 {
				checkTxn(t, "counts", txnOf(9, runOf(3, homes), runOf(1000, revokes)))
			}
		}
	}
}

func TestTxnSeqs(t *testing.T) {
	for _, seq := range seqEdges {
		checkTxn(t, "one home", txnOf(seq, []int64{5}, nil))
		checkTxn(t, "one revoke", txnOf(seq, nil, []int64{5}))
		checkTxn(t, "both", txnOf(seq, []int64{5}, []int64{6}))
	}
	for _, seq := range []int64{1, 2, 4294967294, 4294967295} {
		if !impl.ValidTxn(txnOf(seq, []int64{5}, []int64{6})) {
			t.Error(seq, "is a number")
		}
	}
	for _, seq := range []int64{math.MinInt64, -1, 0, 4294967296, math.MaxInt64} {
		if impl.ValidTxn(txnOf(seq, []int64{5}, []int64{6})) {
			t.Error(seq, "is no number")
		}
	}
}

func TestTxnBlockNumbers(t *testing.T) {
	edges := append([]int64{2046, 2047, 2048, 2049, 65536 + 5, 1<<32 + 5}, ends...)
	for _, a := range edges {
		checkTxn(t, "a home", txnOf(7, []int64{a}, nil))
		checkTxn(t, "a revoke", txnOf(7, nil, []int64{a}))
		for _, b := range edges {
			checkTxn(t, "two homes", txnOf(7, []int64{a, b}, nil))
			checkTxn(t, "two revokes", txnOf(7, nil, []int64{a, b}))
			checkTxn(t, "one of each", txnOf(7, []int64{a}, []int64{b}))
			checkTxn(t, "homes around", txnOf(7, []int64{3, a, b}, []int64{1}))
			checkTxn(t, "revokes around", txnOf(7, []int64{1}, []int64{a, b, 1000}))
		}
	}
	for _, good := range []impl.Txn{txnOf(7, []int64{0, 2047}, nil), txnOf(7, nil, []int64{0, 2047}), txnOf(7, []int64{0}, []int64{2047}), txnOf(7, []int64{2047}, []int64{0})} {
		if !impl.ValidTxn(good) {
			t.Error(good, "is valid")
		}
	}
}

// Two alike or two that fall, at each place of a list that has several pieces; and one in both lists.
func TestTxnOrder(t *testing.T) {
	t.Parallel()
	for _, n := range []int{2, 17, 18, 26, 27, 35, 53, 60} {
		for i := range n - 1 {
			alike, falling := runOf(10, n), runOf(10, n)
			alike[i+1] = alike[i]
			falling[i], falling[i+1] = falling[i+1], falling[i]
			for _, blocks := range [][]int64{alike, falling} {
				checkTxn(t, "homes that do not rise", txnOf(7, blocks, []int64{900}))
				checkTxn(t, "revokes that do not rise", txnOf(7, []int64{900}, blocks))
				if impl.ValidTxn(txnOf(7, blocks, nil)) || impl.ValidTxn(txnOf(7, nil, blocks)) {
					t.Error("blocks that do not rise:", blocks)
				}
			}
		}
	}
	for _, n := range []int{1, 2, 3, 17, 18, 40} {
		homes := runOf(100, n)
		for _, b := range homes {
			x := txnOf(7, homes, []int64{50, b, 500})
			checkTxn(t, "in both lists", x)
			if impl.ValidTxn(x) {
				t.Error(b, "is in both lists, of homes", homes)
			}
			checkTxn(t, "in both lists, the other way", txnOf(7, []int64{50, b, 500}, homes))
			checkTxn(t, "in one list", txnOf(7, homes, []int64{50, 99, 500}))
		}
	}
	odd, even := []int64{}, []int64{}
	for b := range int64(64) {
		odd, even = append(odd, 2*b+1), append(even, 2*b)
	}
	checkTxn(t, "between each other", txnOf(7, odd, even))
	if !impl.ValidTxn(txnOf(7, odd, even)) {
		t.Error("odd homes and even revokes")
	}
}

func TestTxnData(t *testing.T) {
	for _, n := range []int{0, 1, 4, 63, 64, 65, 128, 4096} {
		for _, at := range []int{0, 1, 16, 17, 18, 39} {
			x := txnOf(7, runOf(10, 40), []int64{900})
			x.Homes[at].Data = drawn(n, 3)
			checkTxn(t, "data", x)
			if impl.ValidTxn(x) != (n == 64) {
				t.Errorf("%d bytes of data at home %d", n, at)
			}
			x.Homes[at].Data = append(slices.Clone(magic), drawn(5000, 3)...)[:n]
			checkTxn(t, "data with the magic", x)
		}
	}
	x := txnOf(7, []int64{10}, nil)
	x.Homes[0].Data = nil
	checkTxn(t, "no data", x)
	checkTxn(t, "nothing", impl.Txn{})
	checkTxn(t, "nothing but a number", impl.Txn{Seq: 1})
	checkTxn(t, "empty lists", impl.Txn{Seq: 1, Homes: []impl.Home{}, Revokes: []int64{}})
}

// Promise 5, there and back, of transactions that are drawn.
func TestTxnThereAndBack(t *testing.T) {
	draw := rand.New(rand.NewSource(61))
	lengths := map[int64]int{}
	for i := range 700 {
		x := drawnTxn(draw, 1+draw.Int63n(4294967295), 1+i%128)
		checkTxn(t, "drawn", x)
		lengths[impl.TxnLength(x)]++
		again := impl.ReadTxn(impl.TxnBlocks(x)).Txn
		if !bytes.Equal(impl.TxnBlocks(again), impl.TxnBlocks(x)) {
			t.Fatal("what is read back has other blocks")
		}
	}
	if len(lengths) < 60 || lengths[0] != 0 {
		t.Error("the lengths that were drawn:", lengths)
	}
}

// Copies that begin with the magic, with zeros, or are blocks of the journal themselves, even of this transaction.
func TestTxnOfJournalBlocks(t *testing.T) {
	inner := plainTxn(txnOf(7, []int64{4, 5, 6}, []int64{8, 9}))
	x := impl.Txn{Seq: 7}
	for i := 0; i < len(inner); i += 64 {
		x.Homes = append(x.Homes, impl.Home{Block: int64(20 + i/64), Data: inner[i : i+64]})
	}
	checkTxn(t, "the blocks of another one", x)
	x = impl.Txn{Seq: 7, Homes: []impl.Home{
		{Block: 1, Data: impl.EncodeJSuper(impl.JSuper{Log: 16, Start: 1, Seq: 7})},
		{Block: 2, Data: impl.EncodeCommit(impl.Commit{Seq: 7, Count: 2, Sum: 5})},
		{Block: 3, Data: make([]byte, 64)},
		{Block: 4, Data: append(slices.Clone(magic), make([]byte, 60)...)},
	}}
	checkTxn(t, "blocks of the journal", x)
	b := impl.TxnBlocks(x)
	for i := 64; i < 5*64; i += 64 {
		if bytes.HasPrefix(b[i:], magic) {
			t.Error("a copy begins with the magic")
		}
	}
	if got := impl.DecodeDescriptor(b[:64]).Descriptor.Tags; value(got) != value([]impl.Tag{{Block: 1, Escaped: true}, {Block: 2, Escaped: true}, {Block: 3}, {Block: 4, Escaped: true}}) {
		t.Error("tags", got)
	}
}
