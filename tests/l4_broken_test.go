package tests

import (
	"bytes"
	"math/rand"
	"slices"
	"testing"

	"loop.example/s01525/impl"
)

// wholeTxns are valid transactions, those at the edges first.
func wholeTxns() []impl.Txn {
	draw := rand.New(rand.NewSource(71))
	txns := []impl.Txn{
		txnOf(1, []int64{0}, nil), txnOf(4294967295, nil, []int64{2047}), txnOf(258, []int64{30, 31, 300}, []int64{3, 700}),
		txnOf(7, runOf(20, 17), nil), txnOf(7, runOf(20, 18), runOf(200, 27)), txnOf(8, nil, runOf(0, 52)),
		{Seq: 1, Homes: []impl.Home{{Block: 5, Data: make([]byte, 64)}, {Block: 6, Data: append(slices.Clone(magic), make([]byte, 60)...)}}},
		txnOf(9, runOf(1, 128), nil), txnOf(10, nil, runOf(1, 128)), txnOf(11, runOf(0, 64), runOf(64, 64)),
	}
	for _, most := range []int{2, 5, 20, 60, 128} {
		txns = append(txns, drawnTxn(draw, 1+draw.Int63n(4294967295), most))
	}
	return txns
}

// Promise 5: each bit of the smaller ones, and some bits of each block of the larger ones, turned alone.
func TestTxnOneBitTurned(t *testing.T) {
	t.Parallel()
	draw := rand.New(rand.NewSource(72))
	for _, x := range wholeTxns() {
		b := impl.TxnBlocks(x)
		for at := range len(b) * 8 {
			if len(b) > 24*64 && draw.Intn(40) != 0 {
				continue
			}
			b[at/8] ^= 1 << (at % 8)
			if impl.ReadTxn(b).Good {
				t.Fatalf("seq %d: bit %d of byte %d turned is not seen", x.Seq, at%8, at/8)
			}
			b[at/8] ^= 1 << (at % 8)
		}
		if !impl.ReadTxn(b).Good {
			t.Fatal("turned back it is whole")
		}
	}
}

// Promise 5: bits turned that all lie within 32 in a row, from many places of each block on, over its end too.
func TestTxnBitsInARowTurned(t *testing.T) {
	t.Parallel()
	draw := rand.New(rand.NewSource(73))
	for _, x := range wholeTxns() {
		b := impl.TxnBlocks(x)
		for at := 0; at < len(b); at += 64 {
			places := []int{0, 16, 32, 48, 64, 96, 104, 128, 480}
			for range 6 {
				places = append(places, draw.Intn(512))
			}
			for _, place := range places {
				for _, pattern := range []uint32{1, 3, 0xFF, 0xFFFFFFFF, 0x80000001, draw.Uint32() | 1, draw.Uint32() | 1} {
					// Within 32 bits in a row that do not lead behind the last byte.
					from := min(at*8+place, len(b)*8-32)
					checkNoTxn(t, "bits in a row turned", turned(b, from, pattern))
				}
			}
		}
	}
}

// Every place of some small ones, with drawn patterns.
func TestTxnEveryRowTurned(t *testing.T) {
	draw := rand.New(rand.NewSource(74))
	for _, x := range []impl.Txn{txnOf(1, []int64{0}, nil), txnOf(258, []int64{30, 31}, []int64{3}), txnOf(3, nil, []int64{9})} {
		b := impl.TxnBlocks(x)
		for from := range len(b)*8 - 31 {
			for range 5 {
				checkNoTxn(t, "bits in a row turned", turned(b, from, draw.Uint32()|1))
			}
		}
	}
}

// Promise 5: one block less, wherever it stood, and one more, of whatever kind, wherever it stands.
func TestTxnOneBlockLessOrMore(t *testing.T) {
	for _, x := range wholeTxns() {
		b := impl.TxnBlocks(x)
		extra := [][]byte{make([]byte, 64), filled(255), drawn(64, 5), b[:64], b[len(b)-64:]}
		for at := 0; at < len(b); at += 64 {
			checkNoTxn(t, "a block less", slices.Concat(b[:at], b[at+64:]))
			checkNoTxn(t, "a block doubled", slices.Concat(b[:at+64], b[at:]))
		}
		for at := 0; at <= len(b); at += 64 {
			for _, e := range extra {
				checkNoTxn(t, "a block more", slices.Concat(b[:at], e, b[at:]))
			}
		}
	}
}

// Blocks of two transactions behind each other, two blocks in the other's place, and the first blocks alone.
func TestTxnBlocksMixed(t *testing.T) {
	txns := wholeTxns()
	for i, x := range txns {
		b := impl.TxnBlocks(x)
		for _, y := range txns[max(0, i-2):min(i+3, len(txns))] {
			checkNoTxn(t, "one behind the other", slices.Concat(b, impl.TxnBlocks(y)))
		}
		for at := 64; at < len(b); at += 64 {
			one, two := b[at-64:at], b[at:at+64]
			if string(one) != string(two) {
				checkNoTxn(t, "two blocks that changed places", slices.Concat(b[:at-64], two, one, b[at+64:]))
			}
			checkNoTxn(t, "the first blocks", b[:at])
			checkNoTxn(t, "the last blocks", b[at:])
		}
		next := x
		next.Seq = x.Seq%4294967295 + 1
		other := impl.TxnBlocks(next)
		for at := 0; at < len(b); at += 64 {
			if string(b[at:at+64]) != string(other[at:at+64]) {
				checkNoTxn(t, "a block of the next number", slices.Concat(b[:at], other[at:at+64], b[at+64:]))
			}
		}
	}
}

// Lists of bytes that are no blocks, or too few or too many of them.
func TestReadTxnLengths(t *testing.T) {
	for _, x := range wholeTxns() {
		b := impl.TxnBlocks(x)
		checkNoTxn(t, "a byte less", b[:len(b)-1])
		checkNoTxn(t, "a byte less ahead", b[1:])
		checkNoTxn(t, "a byte more", append(slices.Clone(b), 0))
		checkNoTxn(t, "63 bytes more", append(slices.Clone(b), make([]byte, 63)...))
	}
	for n := range 200 {
		checkNoTxn(t, "zeros", make([]byte, n))
		checkNoTxn(t, "the magic and zeros", append(slices.Clone(magic), make([]byte, n)...))
		checkNoTxn(t, "drawn", drawn(n, 6))
	}
	for _, count := range []int64{0, 1, 2, 511} {
		commit := plainBlock(4, count, 7, field{0, 4})
		checkNoTxn(t, "a commit block alone", commit)
		checkNoTxn(t, "two commit blocks", slices.Concat(commit, plainBlock(4, 1, 7, field{plainCrcOn(0, commit), 4})))
	}
	checkNoTxn(t, "nil", nil)
	checkNoTxn(t, "no bytes", []byte{})
	for _, n := range []int{137, 138, 511, 512, 513, 3000} {
		checkNoTxn(t, "blocks of zeros", make([]byte, n*64))
		checkNoTxn(t, "revoke blocks", slices.Repeat(plainBlock(3, 1, 7, field{5, 2}), n))
		checkNoTxn(t, "commit blocks", slices.Repeat(plainBlock(4, 1, 7, field{5, 4}), n))
		checkNoTxn(t, "descriptors", slices.Repeat(plainBlock(2, 1, 7, field{5, 2}), n))
		checkNoTxn(t, "homes", slices.Repeat(slices.Concat(plainBlock(2, 1, 7, field{5, 2}), filled(1)), n/2))
	}
}

// committed are these blocks with a commit block behind them that fits.
func committed(seq int64, blocks ...[]byte) []byte {
	b := slices.Concat(blocks...)
	return append(b, plainBlock(4, int64(len(b)/64), seq, field{plainCrcOn(0, b), 4})...)
}

func revokesOf(seq int64, blocks ...int64) []byte {
	var fields []field
	for _, b := range blocks {
		fields = append(fields, field{b, 2})
	}
	return plainBlock(3, int64(len(blocks)), seq, fields...)
}

func homesOf(seq int64, blocks ...int64) []byte {
	var homes []impl.Home
	for _, b := range blocks {
		homes = append(homes, impl.Home{Block: b, Data: filled(byte(b))})
	}
	return plainHomes(seq, homes)
}

// Blocks whose sum, count and number fit, and which are yet not those of a valid transaction.
func TestTxnWithAFittingSum(t *testing.T) {
	for name, b := range map[string][]byte{
		"revokes in two pieces":             committed(7, revokesOf(7, 1, 2), revokesOf(7, 3)),
		"a first piece of 25":               committed(7, revokesOf(7, runOf(1, 25)...), revokesOf(7, 90)),
		"homes in two pieces":               committed(7, homesOf(7, 1, 2), homesOf(7, 3)),
		"a first piece of 16":               committed(7, homesOf(7, runOf(1, 16)...), homesOf(7, 90)),
		"revokes behind homes":              committed(7, homesOf(7, 1), revokesOf(7, 2)),
		"revokes ahead of and behind homes": committed(7, revokesOf(7, runOf(30, 26)...), homesOf(7, 1), revokesOf(7, 90)),
		"homes that fall in the next piece": committed(7, homesOf(7, runOf(10, 17)...), homesOf(7, 9)),
		"homes that are alike there":        committed(7, homesOf(7, runOf(10, 17)...), homesOf(7, 26)),
		"revokes that fall":                 committed(7, revokesOf(7, runOf(10, 26)...), revokesOf(7, 9)),
		"revokes that are alike":            committed(7, revokesOf(7, runOf(10, 26)...), revokesOf(7, 35)),
		"homes that fall in one piece":      committed(7, homesOf(7, 5, 4)),
		"revokes that fall in one piece":    committed(7, revokesOf(7, 5, 4)),
		"a block in both":                   committed(7, revokesOf(7, 5), homesOf(7, 5)),
		"a block behind the last":           committed(7, homesOf(7, 2048)),
		"a revoke behind the last":          committed(7, revokesOf(7, 2048)),
		"revokes of another number":         committed(7, revokesOf(8, 5)),
		"homes of another number":           committed(7, homesOf(6, 5)),
		"homes of two numbers":              committed(7, homesOf(7, runOf(10, 17)...), homesOf(6, 50)),
		"revokes of two numbers":            committed(7, revokesOf(8, runOf(10, 26)...), revokesOf(7, 50)),
		"the commit block of another":       committed(8, revokesOf(7, 5), homesOf(7, 6)),
		"the number 0":                      committed(0, revokesOf(0, 5)),
		"no blocks at all":                  committed(7),
		"a revoke block of none":            committed(7, revokesOf(7)),
		"a descriptor of none":              committed(7, homesOf(7)),
		"129 revokes":                       committed(7, revokesOf(7, runOf(0, 26)...), revokesOf(7, runOf(26, 26)...), revokesOf(7, runOf(52, 26)...), revokesOf(7, runOf(78, 26)...), revokesOf(7, runOf(104, 25)...)),
		"a superblock among them":           committed(7, impl.EncodeJSuper(impl.JSuper{Log: 16, Seq: 7}), homesOf(7, 5)),
		"zeros among them":                  committed(7, homesOf(7, 5), make([]byte, 64)),
		"a copy too few":                    committed(7, homesOf(7, 5, 6)[:128]),
		"a copy too many":                   committed(7, homesOf(7, 5), filled(5)),
		"no copy":                           committed(7, homesOf(7, 5)[:64]),
		"a copy with the magic":             committed(7, homesOf(7, 5)[:64], append(slices.Clone(magic), make([]byte, 60)...)),
		"an escaped copy without zeros":     committed(7, plainBlock(2, 1, 7, field{5, 2}, field{1, 1}), append([]byte{0, 0, 1, 0}, make([]byte, 60)...)),
		"escaped by a 2":                    committed(7, plainBlock(2, 1, 7, field{5, 2}, field{2, 1}), make([]byte, 64)),
		"a commit block among them":         committed(7, committed(7, homesOf(7, 5)), homesOf(7, 6)),
		"a commit block as a copy":          committed(7, homesOf(7, 5)[:64], committed(7)),
	} {
		checkNoTxn(t, name, b)
	}
	for name, b := range map[string][]byte{
		"revokes and homes":  committed(7, revokesOf(7, 5), homesOf(7, 6)),
		"full first pieces":  committed(7, revokesOf(7, runOf(100, 26)...), revokesOf(7, 150), homesOf(7, runOf(10, 17)...), homesOf(7, 50)),
		"an escaped copy":    committed(7, plainBlock(2, 1, 7, field{5, 2}, field{1, 1}), make([]byte, 64)),
		"128 revokes":        committed(7, revokesOf(7, runOf(0, 26)...), revokesOf(7, runOf(26, 26)...), revokesOf(7, runOf(52, 26)...), revokesOf(7, runOf(78, 26)...), revokesOf(7, runOf(104, 24)...)),
		"homes ahead of all": committed(7, revokesOf(7, 500), homesOf(7, 0)),
	} {
		if !impl.ReadTxn(b).Good {
			t.Error(name, "is a transaction")
		}
	}
}

// Pieces that are cut anywhere, with a commit block that fits: only those of 26 and 17 are a transaction's.
func TestTxnDrawnPieces(t *testing.T) {
	t.Parallel()
	draw := rand.New(rand.NewSource(75))
	good := 0
	for range 3000 {
		x := drawnTxn(draw, 7, 60)
		var blocks [][]byte
		for rest := x.Revokes; len(rest) > 0; {
			n := min(len(rest), []int{26, 26, 26, 1 + draw.Intn(26)}[draw.Intn(4)])
			blocks = append(blocks, revokesOf(7, rest[:n]...))
			rest = rest[n:]
		}
		for rest := x.Homes; len(rest) > 0; {
			n := min(len(rest), []int{17, 17, 17, 1 + draw.Intn(17)}[draw.Intn(4)])
			blocks = append(blocks, plainHomes(7, rest[:n]))
			rest = rest[n:]
		}
		if draw.Intn(4) == 0 {
			draw.Shuffle(len(blocks), func(i, j int) { blocks[i], blocks[j] = blocks[j], blocks[i] })
		}
		b := committed(7, blocks...)
		want := impl.TxnResult{}
		if bytes.Equal(b, plainTxn(x)) {
			want = impl.TxnResult{Good: true, Txn: x}
			good++
		}
		if got := impl.ReadTxn(b); value(got) != value(want) {
			t.Fatalf("pieces of %d revokes and %d homes: Good is %v", len(x.Revokes), len(x.Homes), got.Good)
		}
	}
	if good < 300 || good > 2700 {
		t.Error(good, "of 3000 were good")
	}
}

// A commit block whose count or sum is another one.
func TestTxnCommitFields(t *testing.T) {
	for _, x := range wholeTxns()[:7] {
		b := impl.TxnBlocks(x)
		ahead := b[:len(b)-64]
		sum := plainCrcOn(0, ahead)
		count := int64(len(ahead) / 64)
		for _, c := range []impl.Commit{
			{Seq: x.Seq, Count: count + 1, Sum: sum}, {Seq: x.Seq, Count: count - 1, Sum: sum}, {Seq: x.Seq, Count: 511, Sum: sum},
			{Seq: x.Seq, Count: count, Sum: sum ^ 1}, {Seq: x.Seq, Count: count, Sum: sum ^ 1<<31}, {Seq: x.Seq, Count: count, Sum: 0},
			{Seq: x.Seq, Count: count, Sum: plainCrcOn(0, b)}, {Seq: x.Seq, Count: count, Sum: plainCrcOn(0, ahead[64:])},
			{Seq: x.Seq, Count: count, Sum: plainCrcOn(0, ahead[:len(ahead)-64])}, {Seq: x.Seq, Count: count + 1, Sum: plainCrcOn(0, b)},
		} {
			checkNoTxn(t, "another commit block", append(slices.Clone(ahead), impl.EncodeCommit(c)...))
		}
		for at := 16; at < 64; at++ {
			other := slices.Clone(b)
			other[len(b)-64+at] = 1
			checkNoTxn(t, "no zeros behind the sum", other)
		}
		other := slices.Clone(b)
		other[len(b)-64+5] = 1
		checkNoTxn(t, "no zero behind the kind", other)
		other = append(slices.Clone(ahead), plainBlock(4, count, x.Seq, field{sum, 4})...)
		if !impl.ReadTxn(other).Good {
			t.Error("the right commit block")
		}
	}
}
