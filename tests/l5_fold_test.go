package tests

import (
	"math"
	"math/rand"
	"slices"
	"testing"

	"loop.example/s01525/impl"
)

// home is a block's copy, filled with one byte.
func home(block int64, b byte) impl.Home {
	return impl.Home{Block: block, Data: filled(b)}
}

func put(homes ...impl.Home) impl.Txn {
	return impl.Txn{Seq: 7, Homes: homes}
}

func gone(blocks ...int64) impl.Txn {
	return impl.Txn{Seq: 7, Revokes: blocks}
}

func TestRevokedPlaces(t *testing.T) {
	txns := []impl.Txn{gone(5, 9), put(home(5, 1)), gone(6), {Revokes: []int64{9, 7, 7, -3}, Homes: []impl.Home{home(7, 1)}}}
	for _, c := range []struct {
		i, block int64
		want     bool
	}{
		{-1, 5, false}, {-1, 6, false}, {0, 5, false}, {0, 6, true}, {0, 7, true}, {0, 9, true}, {0, 8, false}, {0, -3, true},
		{1, 5, false}, {1, 6, true}, {1, 9, true}, {2, 6, false}, {2, 7, true}, {2, 9, true}, {3, 9, false}, {3, 7, false}, {4, 9, false},
		{math.MinInt64, 9, false}, {math.MaxInt64, 9, false}, {0, math.MinInt64, false}, {0, math.MaxInt64, false}, {1 << 32, 9, false}, {-1 << 32, 9, false},
	} {
		if got := impl.Revoked(txns, c.i, c.block); got != c.want {
			t.Errorf("place %d, block %d: %v", c.i, c.block, got)
		}
	}
	for _, i := range []int64{math.MinInt64, -1, 0, 1, math.MaxInt64} {
		if impl.Revoked(nil, i, 5) || impl.Revoked([]impl.Txn{gone(5)}, i, 5) && i >= 0 {
			t.Error("nothing stands behind place", i)
		}
	}
	extreme := []impl.Txn{put(home(1, 1)), gone(math.MinInt64, math.MaxInt64)}
	if !impl.Revoked(extreme, 0, math.MinInt64) || !impl.Revoked(extreme, 0, math.MaxInt64) || impl.Revoked(extreme, 0, 0) {
		t.Error("blocks at the ends of the numbers")
	}
}

func TestSurvivorsByHand(t *testing.T) {
	for name, c := range map[string]struct {
		txns []impl.Txn
		want []impl.Home
	}{
		"none":                                 {nil, nil},
		"an empty one":                         {[]impl.Txn{{}}, nil},
		"one":                                  {[]impl.Txn{put(home(5, 1))}, []impl.Home{home(5, 1)}},
		"the later copy":                       {[]impl.Txn{put(home(5, 1)), put(home(5, 2))}, []impl.Home{home(5, 2)}},
		"the blocks rise":                      {[]impl.Txn{put(home(9, 1)), put(home(5, 2)), put(home(7, 3))}, []impl.Home{home(5, 2), home(7, 3), home(9, 1)}},
		"revoked":                              {[]impl.Txn{put(home(5, 1), home(6, 2)), gone(5)}, []impl.Home{home(6, 2)}},
		"revoked, and put again":               {[]impl.Txn{put(home(5, 1)), gone(5), put(home(5, 3))}, []impl.Home{home(5, 3)}},
		"put again, and revoked":               {[]impl.Txn{put(home(5, 1)), gone(5), put(home(5, 3)), gone(5)}, nil},
		"revoked ahead of it":                  {[]impl.Txn{gone(5), put(home(5, 1))}, []impl.Home{home(5, 1)}},
		"revoked far behind":                   {[]impl.Txn{put(home(5, 1)), put(home(5, 2)), put(home(6, 3)), gone(5)}, []impl.Home{home(6, 3)}},
		"revokes alone":                        {[]impl.Txn{gone(5), gone(6, 5)}, nil},
		"a revoke and a copy in one":           {[]impl.Txn{{Homes: []impl.Home{home(5, 1)}, Revokes: []int64{5}}}, []impl.Home{home(5, 1)}},
		"that revokes the earlier copy":        {[]impl.Txn{put(home(5, 9), home(6, 9)), {Homes: []impl.Home{home(5, 1)}, Revokes: []int64{5, 6}}}, []impl.Home{home(5, 1)}},
		"and is revoked by a later one":        {[]impl.Txn{{Homes: []impl.Home{home(5, 1)}, Revokes: []int64{5}}, gone(5)}, nil},
		"two copies in one":                    {[]impl.Txn{put(home(5, 1), home(6, 2), home(5, 3))}, []impl.Home{home(5, 3), home(6, 2)}},
		"places count, not numbers":            {[]impl.Txn{{Seq: 9, Homes: []impl.Home{home(5, 1)}}, {Seq: 3, Revokes: []int64{5}}, {Seq: 1, Homes: []impl.Home{home(6, 1)}}}, []impl.Home{home(6, 1)}},
		"blocks at the ends of the numbers":    {[]impl.Txn{put(home(math.MaxInt64, 1), home(math.MinInt64, 2), home(-1, 3), home(0, 4))}, []impl.Home{home(math.MinInt64, 2), home(-1, 3), home(0, 4), home(math.MaxInt64, 1)}},
		"such blocks revoked":                  {[]impl.Txn{put(home(math.MaxInt64, 1), home(math.MinInt64, 2)), gone(math.MinInt64, math.MaxInt64)}, nil},
		"no data":                              {[]impl.Txn{put(impl.Home{Block: 5})}, []impl.Home{{Block: 5}}},
		"data of 0 and 65 bytes":               {[]impl.Txn{put(impl.Home{Block: 5, Data: []byte{}}, impl.Home{Block: 6, Data: drawn(65, 3)})}, []impl.Home{{Block: 5}, {Block: 6, Data: drawn(65, 3)}}},
		"no data behind some":                  {[]impl.Txn{put(home(5, 1)), put(impl.Home{Block: 5})}, []impl.Home{{Block: 5}}},
		"data of many bytes, with the magic":   {[]impl.Txn{put(impl.Home{Block: 5, Data: append(slices.Clone(magic), drawn(9000, 3)...)})}, []impl.Home{{Block: 5, Data: append(slices.Clone(magic), drawn(9000, 3)...)}}},
		"a number that is none, no order":      {[]impl.Txn{{Seq: -8, Homes: []impl.Home{home(7, 1), home(3, 2)}, Revokes: []int64{4, 4, 1}}}, []impl.Home{home(3, 2), home(7, 1)}},
		"a block that comes in each":           {[]impl.Txn{put(home(5, 1)), put(home(5, 2)), put(home(5, 3)), put(home(5, 4))}, []impl.Home{home(5, 4)}},
		"each copy but the last one revoked":   {[]impl.Txn{put(home(5, 1)), gone(5), put(home(5, 2)), gone(5), put(home(5, 3))}, []impl.Home{home(5, 3)}},
		"revokes of blocks that have no copy":  {[]impl.Txn{put(home(5, 1)), gone(4, 6, 7), put(home(8, 1))}, []impl.Home{home(5, 1), home(8, 1)}},
		"two in one, revoked, and put in once": {[]impl.Txn{put(home(5, 1), home(5, 2)), gone(5, 5), put(home(5, 3))}, []impl.Home{home(5, 3)}},
	} {
		if got := impl.Survivors(c.txns); value(got) != value(c.want) {
			t.Errorf("%s: %v", name, got)
		}
		if value(plainSurvivors(c.txns)) != value(c.want) || value(folded(c.txns)) != value(c.want) {
			t.Errorf("%s: the tests' own fold is another", name)
		}
	}
}

// oddTxn is a transaction of some blocks in any order, several times or not, with data of any length.
func oddTxn(draw *rand.Rand, blocks int64, most int) impl.Txn {
	x := impl.Txn{Seq: draw.Int63n(5) - 2}
	for range draw.Intn(most + 1) {
		b := draw.Int63n(blocks) - blocks/3
		if draw.Intn(2) == 0 {
			x.Revokes = append(x.Revokes, b)
		} else {
			x.Homes = append(x.Homes, impl.Home{Block: b, Data: drawn([]int{0, 1, 63, 64, 64, 65}[draw.Intn(6)], draw.Int63())})
		}
	}
	return x
}

// Promise 8: Survivors is the fold, and it is what Revoked tells.
func TestSurvivorsAreTheFold(t *testing.T) {
	t.Parallel()
	draw := rand.New(rand.NewSource(111))
	left, some := 0, 0
	for range 4000 {
		var txns []impl.Txn
		blocks := 1 + draw.Int63n(12)
		for range draw.Intn(9) {
			txns = append(txns, oddTxn(draw, blocks, 6))
		}
		want := folded(txns)
		got := impl.Survivors(txns)
		if value(got) != value(want) || value(got) != value(plainSurvivors(txns)) {
			t.Fatalf("of %v: %v, not %v", txns, got, want)
		}
		left += len(want)
		for i := range txns {
			for b := -blocks; b <= blocks; b++ {
				revoked := impl.Revoked(txns, int64(i), b)
				if revoked != plainRevoked(txns, i, b) {
					t.Fatalf("Revoked of place %d, block %d in %v is %v", i, b, txns, revoked)
				}
				if revoked {
					some++
				}
			}
		}
	}
	if left < 4000 || some < 4000 {
		t.Error(left, "survived,", some, "were revoked")
	}
}

// Up to 512 transactions are folded, and no more.
func TestSurvivorsOfManyTransactions(t *testing.T) {
	for _, n := range []int{511, 512, 513, 514, 1000, 20000} {
		ones := make([]impl.Txn, n)
		for i := range ones {
			ones[i] = put(home(int64(i%300), byte(i)))
		}
		ones[n-1] = gone(7)
		want := folded(ones)
		empty := make([]impl.Txn, n)
		if n > 512 {
			want = nil
		} else if len(want) != 299 {
			t.Error("so many survive:", len(want))
		}
		if got := impl.Survivors(ones); value(got) != value(want) {
			t.Errorf("of %d transactions %d homes, not %d", n, len(got), len(want))
		}
		if len(impl.Survivors(empty)) != 0 {
			t.Error("of empty ones something survives")
		}
		empty[n-1] = put(home(3, 1))
		if got := impl.Survivors(empty); (len(got) == 1) != (n <= 512) {
			t.Errorf("%d transactions, the last one with a copy: %v", n, got)
		}
		if !impl.Revoked(ones, 0, 7) || impl.Revoked(ones, int64(n-1), 7) {
			t.Error("Revoked has no such bound")
		}
	}
}

// spread are so many homes and revokes in so many transactions, all of other blocks.
func spread(homes, revokes, txns int) []impl.Txn {
	out := make([]impl.Txn, txns)
	for i := range homes {
		x := &out[i*txns/homes]
		x.Homes = append(x.Homes, impl.Home{Block: int64(i), Data: []byte{byte(i)}})
	}
	for i := range revokes {
		x := &out[i*txns/revokes]
		x.Revokes = append(x.Revokes, int64(20000+i))
	}
	return out
}

// Up to 10000 homes and revokes are folded, and no more.
func TestSurvivorsOfManyBlocks(t *testing.T) {
	for _, txns := range []int{1, 2, 85, 512} {
		for _, c := range []struct{ homes, revokes int }{
			{10000, 0}, {10001, 0}, {1, 9999}, {1, 10000}, {5000, 5000}, {5000, 5001}, {5001, 5000}, {9999, 1}, {9999, 2}, {9999, 0}, {12000, 12000},
		} {
			want := c.homes
			if c.homes+c.revokes > 10000 {
				want = 0
			}
			got := impl.Survivors(spread(c.homes, c.revokes, txns))
			if len(got) != want {
				t.Errorf("%d homes and %d revokes in %d: %d survive", c.homes, c.revokes, txns, len(got))
			}
			for i, h := range got {
				if h.Block != int64(i) || len(h.Data) != 1 || h.Data[0] != byte(i) {
					t.Fatal("home", i, "is", h)
				}
			}
		}
	}
	if len(impl.Survivors(spread(0, 10001, 1))) != 0 {
		t.Error("revokes alone")
	}
	// All of one block: what counts is how many there are, not of how many blocks.
	same := put(slices.Repeat([]impl.Home{home(4, 1)}, 10000)...)
	if got := impl.Survivors([]impl.Txn{same}); value(got) != value([]impl.Home{home(4, 1)}) {
		t.Error("10000 copies of one block:", len(got))
	}
	if got := impl.Survivors([]impl.Txn{same, gone(9)}); len(got) != 0 {
		t.Error("and a revoke:", got)
	}
}
